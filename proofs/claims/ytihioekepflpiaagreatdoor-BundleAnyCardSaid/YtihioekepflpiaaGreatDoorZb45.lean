import Derived.Test.YtihioekepflpiaaGreatDoorZb15
import Derived.Test.YtihioekepflpiaaGreatDoorZb22
import Derived.Test.YtihioekepflpiaaGreatDoorZb23
import Derived.Test.YtihioekepflpiaaGreatDoorZb34
import Derived.Test.YtihioekepflpiaaGreatDoorZb35
import Derived.Test.YtihioekepflpiaaGreatDoorZb44
set_option linter.unusedVariables false
set_option linter.unusedSimpArgs false
namespace Go.Proofs.YtihioekepflpiaaGreatDoor
open Go.RowKit Bu
/-- What a call of the program's that answers a bundle and an error leaves. -/
def BdP (A : Nat → Addr) (R : Nat × Bd) (w : World) (e : Ending) (w' : World) : Prop := ∃ p, e = .returned (.tuple #[.agg #[.int .i64 R.2.v, .string R.2.sp, p], errOf A R.1]) ∧ Ans w' p R.2.l ∧ Fits p ∧ w.grownBy w' none
theorem right_wrap {v : Int} (h1 : -9223372036854775808 ≤ v) (h2 : v ≤ 9223372036854775807) (sp : ByteArray) (l : List An) : right ⟨wrap64 (v + 1), sp, l⟩ = right ⟨v + 1, sp, l⟩ ∧ (right ⟨v + 1, sp, l⟩ = true → wrap64 (v + 1) = v + 1) := by
  by_cases h : v = 9223372036854775807
  · subst h
    have e1 : right ⟨(9223372036854775807 : Int) + 1, sp, l⟩ = false := right_lt (by omega)
    rw [e1]
    refine ⟨?_, fun h => by cases h⟩
    unfold right
    rw [decide_eq_false (by show ¬ (1 ≤ wrap64 (9223372036854775807 + 1) ∧ _); unfold wrap64; omega), Bool.false_and]
  · have e : wrap64 (v + 1) = v + 1 := by unfold wrap64; omega
    rw [e]
    exact ⟨rfl, fun _ => rfl⟩
theorem next_perm {b : Bd} {l m : List An} (hp : l.Perm m) (hl : l.Pairwise (fun a b => a.g ≤ b.g)) (hm : m.Pairwise (fun a b => a.g ≤ b.g)) : next b l = next b m := by
  obtain ⟨h1, h2⟩ := okL_perm hp hl hm
  have e : ∀ l, right (nxt b l) = (decide (1 ≤ b.v + 1 ∧ b.v + 1 ≤ 1099511627776) && (Pt.label (strL b.sp) && okL l)) := fun l => rfl
  unfold next
  rw [e l, e m, ← h1]
  cases hx : okL l with
  | true => rw [h2 hx]
  | false => rw [Bool.and_false, Bool.and_false]; rfl
theorem bnext_out (A : Nat → Addr) (v : Int) (sp : ByteArray) (ao a : Value) (lo l : List An) (w : World) (hAo : Ans w ao lo) (hA : Ans w a l) (hF : Fits a) (hl : l.length ≤ 1000) (hk : ∀ x ∈ l, x.k.size ≤ 1000) (hsp : sp.size ≤ 1000) (hE : AllErrs w A) (h1 : -9223372036854775808 ≤ v) (h2 : v ≤ 9223372036854775807) :
    Calls Tryz.prog 22 #[.agg #[.int .i64 v, .string sp, ao], a] w (BdP A (next ⟨v, sp, lo⟩ l) w) := by
  refine (bnext_any A v sp ao a lo l w hAo hA hl hk hsp hE).mono ?_
  rintro e w' ⟨rfl, hg⟩
  obtain ⟨e2, e3⟩ := right_wrap h1 h2 sp l
  unfold nextV next BdP
  have e1 : right (nxt ⟨v, sp, lo⟩ l) = right ⟨v + 1, sp, l⟩ := rfl
  rw [e1, e2]
  cases hr : right ⟨v + 1, sp, l⟩ with
  | true =>
    rw [e3 hr]
    exact ⟨a, rfl, hA.grown hg, hF, hg⟩
  | false => exact ⟨.slice none 0 0, rfl, Ans.nil _, Fits.nil, hg⟩
theorem ixB_neg : ∀ (l : List An) (q : An → Bool), ixB q l = -1 → ∀ j, j < l.length → q (l.getD j an0) = false
  | [], _, _, j, hj => absurd hj (Nat.not_lt_zero _)
  | x :: r, q, h, j, hj => by
    rw [ixB] at h
    by_cases e : q x = true
    · rw [if_pos e] at h; omega
    · rw [if_neg e] at h
      have hr : ixB q r = -1 := by
        rcases ixB_cases r q with ⟨i, _, h2, _⟩ | h2
        · rw [if_neg (by omega)] at h; omega
        · exact h2
      match j, hj with
      | 0, _ => simpa using e
      | j + 1, hj => simpa using ixB_neg r q hr j (by simpa using hj)
theorem withA_ix (v : Int) (sp : ByteArray) (l : List An) (x : An) : withA ⟨v, sp, l⟩ x = if decide (0 ≤ ixB (qW x) l) = true then (19, bd0) else next ⟨v, sp, l⟩ (srt (l ++ [x])) := by
  by_cases h : ∀ j, j < l.length → qW x (l.getD j an0) = false
  · rw [none_qW h, ixB_none h]; rfl
  · obtain ⟨j, hj⟩ := Classical.not_forall.1 h
    obtain ⟨hj, hq⟩ := Classical.not_imp.1 hj
    have hq : qW x (l.getD j an0) = true := by simpa using hq
    rw [any_qW hj hq]
    have : 0 ≤ ixB (qW x) l := by
      rcases ixB_cases l (qW x) with ⟨i, h1, h2, _⟩ | h2
      · omega
      · exact absurd (ixB_neg l (qW x) h2 j hj) (by rw [hq]; decide)
    rw [decide_eq_true this, if_pos rfl]
set_option maxRecDepth 100000 in
set_option maxHeartbeats 16000000 in
theorem bwith_any (A : Nat → Addr) (v : Int) (sp : ByteArray) (a : Value) (l : List An) (x : An) (w : World) (hA : Ans w a l) (hl : l.length ≤ 900) (hk : ∀ x ∈ l, x.k.size ≤ 1000) (hkx : x.k.size ≤ 1000) (hsp : sp.size ≤ 1000) (hE : AllErrs w A) (hv1 : -9223372036854775808 ≤ v) (hv2 : v ≤ 9223372036854775807) :
    Calls Tryz.prog 8 #[.agg #[.int .i64 v, .string sp, a], x.val] w (BdP A (withA ⟨v, sp, l⟩ x) w) := by
  have hI := bd_info
  have hIf := an_full
  rw [withA_ix]
  have HHs := Lib.hid (fun W (hW : w.grownBy W none) p9 hp => hasW_any a l x p9 W (hA.grown hW) hp (by omega))
  have HCl := Lib.hid (fun W (hW : w.grownBy W none) => anClone_any a l W (hA.grown hW) (by omega))
  generalize hC : decide (0 ≤ ixB (qW x) l) = C at *
  clear hC
  obtain ⟨xg, xk, xf, xt⟩ := x
  have hv0 : An.val ⟨xg, xk, xf, xt⟩ = .agg #[.int .i64 xg, .string xk, .int .i64 xf, .int .i64 xt] := rfl
  rw [hv0]
  replace HHs : Hid (∀ W, w.grownBy W none → ∀ p9, W.heap[p9]? = some (.cells #[.int .i64 xg, .string xk, .int .i64 xf, .int .i64 xt] 33 (0, 0)) → Calls Tryz.prog 20 #[a, .func (.func 21) #[] #[.pointer (some ⟨p9, 0, none⟩)]] W fun e w' => e = .returned (.bool C) ∧ W.grownBy w' none) := HHs
  have hlk : ∀ y ∈ l ++ [(⟨xg, xk, xf, xt⟩ : An)], y.k.size ≤ 1000 := fun y hy => by
    rcases List.mem_append.1 hy with h | h
    · exact hk y h
    · rw [List.mem_singleton.1 h]; exact hkx
  have HRi := Lib.hid (fun B W u (hu : W.ownsRow B 33 4 u (l.length + 1) (cellsA l ++ cellsA [(⟨xg, xk, xf, xt⟩ : An)])) => rising_any B 33 u (l ++ [⟨xg, xk, xf, xt⟩]) W (by rw [← cellsA_app] at hu; rw [List.length_append]; exact hu) (by simp) (by rw [List.length_append]; simp; omega))
  have HNx : Hid (∀ W u l', w.grownBy W none → Ans W u l' → Fits u → l'.Perm (l ++ [⟨xg, xk, xf, xt⟩]) → l'.Pairwise (fun a b => a.g ≤ b.g) → Calls Tryz.prog 22 #[.agg #[.int .i64 v, .string sp, a], u] W (BdP A (next ⟨v, sp, l⟩ (srt (l ++ [⟨xg, xk, xf, xt⟩]))) W)) := Lib.hid (fun W u l' hW hu hf hp hs => by
    rw [← next_perm (b := ⟨v, sp, l⟩) (hp.trans (srt_perm _).symm) hs (srt_rise _)]
    exact bnext_out A v sp a u l l' W (hA.grown hW) hu hf (by rw [hp.length_eq, List.length_append]; simp; omega) (fun y hy => hlk y (hp.mem_iff.1 hy)) hsp (hE.grown hW) hv1 hv2)
  obtain ⟨R, hR⟩ : ∃ R, R = next ⟨v, sp, l⟩ (srt (l ++ [⟨xg, xk, xf, xt⟩])) := ⟨_, rfl⟩
  rw [← hR] at HNx ⊢
  obtain ⟨w1, hw1⟩ : ∃ w1, w1 = ((w.alloc (.cells #[.int .i64 v, .string sp, a] 24)).alloc (.cells #[.int .i64 xg, .string xk, .int .i64 xf, .int .i64 xt] 33)).alloc (.cells #[.int .i64 0, .string ⟨#[]⟩, .slice none 0 0] 24) := ⟨_, rfl⟩
  have hg1 : w.grownBy w1 none := by rw [hw1]; exact grown_alloc (grown_alloc (World.grownBy_alloc _ _ _) _) _
  have b0 : w1.heap[w.heap.size]? = some (.cells #[.int .i64 v, .string sp, a] 24 (0, 0)) := by rw [hw1]; exact alloc_keep (alloc2_old _ _ _)
  have b1 : w1.heap[w.heap.size + 1]? = some (.cells #[.int .i64 xg, .string xk, .int .i64 xf, .int .i64 xt] 33 (0, 0)) := by rw [hw1]; exact alloc_keep (alloc2_new _ _ _)
  have b2 : w1.heap[w.heap.size + 1 + 1]? = some (.cells #[.int .i64 0, .string ⟨#[]⟩, .slice none 0 0] 24 (0, 0)) := by
    rw [hw1]
    have := alloc_at ((w.alloc (.cells #[.int .i64 v, .string sp, a] 24)).alloc (.cells #[.int .i64 xg, .string xk, .int .i64 xf, .int .i64 xt] 33)) (.cells #[.int .i64 0, .string ⟨#[]⟩, .slice none 0 0] 24)
    rw [alloc_size, alloc_size] at this; exact this
  have HAa := Lib.hid (fun W (hW : w.grownBy W none) => hA.grown hW)
  have HEr := Lib.hid (fun W (hg : w.grownBy W none) => (hE.grown hg).at_ 18 (by omega))
  have HEz := Lib.hid (hE.lt 18 (by omega))
  obtain ⟨a1, g1, s1, c1, rfl, -, -, -⟩ := hA.form
  obtain ⟨N, hN⟩ : ∃ N, N = l.length := ⟨_, rfl⟩
  have HLn : Hid (N = l.length) := Lib.hid hN
  rw [← hN] at HHs HCl HRi HNx b0 hw1 HAa hl ⊢
  have HH1 := Lib.hid (HHs.out w1 hg1 (w.heap.size + 1) b1)
  have HW1 := Lib.hid hw1
  have HB0 := Lib.hid b0
  have HB1 := Lib.hid b1
  have HB2 := Lib.hid b2
  have HG1 := Lib.hid hg1
  have d0 := cell_blk b0 2 rfl
  rw [hw1] at d0
  clear hA hk hkx hsp hw1 hg1 b0 b1 b2 hN hlk hR hv0 hv1 hv2 hE HHs
  cases C with
  | true =>
    rw [if_pos rfl]
    go_enter Tryz.func8, Tryz.ntmps8
    go_wp2_with (go_at_call 20; rw [← HW1.out]; refine HH1.out.mono ?_; rintro e w5 ⟨rfl, hg5⟩; have HG5 := Lib.hid (grown_trans HG1.out hg5); have HZ5 := Lib.hid (hold_b3 HB2.out hg5); have y0 := free_blk HZ5.out 0; have y1 := free_blk HZ5.out 1; have y2 := free_blk HZ5.out 2; have z0 := cell_blk HZ5.out 0 rfl; have z1 := cell_blk HZ5.out 1 rfl; have z2 := cell_blk HZ5.out 2 rfl; clear hg5)
    have he := HEr.out _ HG5.out
    have hz : 0 < w.heap.size := HEz.out
    have hz1 : w.heap.size + 1 + 1 ≠ 0 := by omega
    have hz2 : 0 ≠ w.heap.size + 1 + 1 := by omega
    replace he : w5.cell? ⟨0, 0, none⟩ = some (errV A 19) := he
    go_region
    go_wp2
    refine bodyPost_ret (v := .tuple #[.agg #[.int .i64 0, .string ⟨#[]⟩, .slice none 0 0], errV A 19]) ?_ rfl ⟨.slice none 0 0, rfl, Ans.nil _, Fits.nil, ?_⟩
    · exact results_rowT Tryz.results8 _ _ (w.heap.size + 1 + 1) _ _ (0, 0) _ _ rfl (set3 HZ5.out) Tryz.underlying24 rfl hI rfl
    · exact grown_drewN (grown_set (grown_set (grown_set HG5.out (.inl (show w.heap.size ≤ w.heap.size + 1 + 1 from by omega)) _) (.inl (show w.heap.size ≤ w.heap.size + 1 + 1 from by omega)) _) (.inl (show w.heap.size ≤ w.heap.size + 1 + 1 from by omega)) _) 1
  | false =>
    rw [if_neg (by decide)]
    go_enter Tryz.func8, Tryz.ntmps8
    go_wp2_with (go_at_call 20; rw [← HW1.out]; refine HH1.out.mono ?_; rintro e wr ⟨rfl, hg5⟩; have HG := Lib.hid hg5; have HZ := Lib.hid (hold_b3 HB2.out hg5); clear hg5)
    have HS : Hid (∀ W, wr.grownBy W none → W.cell? ⟨w.heap.size, 0, none⟩ = some (.int .i64 v) ∧ W.cell? ⟨w.heap.size, 1, none⟩ = some (.string sp) ∧ W.cell? ⟨w.heap.size, 2, none⟩ = some (.slice a1 N c1) ∧ W.cell? ⟨w.heap.size + 1, 0, none⟩ = some (.int .i64 xg) ∧ W.cell? ⟨w.heap.size + 1, 1, none⟩ = some (.string xk) ∧ W.cell? ⟨w.heap.size + 1, 2, none⟩ = some (.int .i64 xf) ∧ W.cell? ⟨w.heap.size + 1, 3, none⟩ = some (.int .i64 xt)) := Lib.hid (fun W hW => by
      have k0 := hold_b3 HB0.out (grown_trans HG.out hW)
      have k1 := hold_b3 HB1.out (grown_trans HG.out hW)
      exact ⟨cell_blk k0 0 rfl, cell_blk k0 1 rfl, cell_blk k0 2 rfl, cell_blk k1 0 rfl, cell_blk k1 1 rfl, cell_blk k1 2 rfl, cell_blk k1 3 rfl⟩)
    have HSf : Hid (∀ W q0 q1 q2, wr.grownBy W none → (((W.setCell ⟨w.heap.size + 1 + 1, 0, none⟩ q0).setCell ⟨w.heap.size + 1 + 1, 1, none⟩ q1).setCell ⟨w.heap.size + 1 + 1, 2, none⟩ q2).cell? ⟨w.heap.size, 0, none⟩ = some (.int .i64 v) ∧ (((W.setCell ⟨w.heap.size + 1 + 1, 0, none⟩ q0).setCell ⟨w.heap.size + 1 + 1, 1, none⟩ q1).setCell ⟨w.heap.size + 1 + 1, 2, none⟩ q2).cell? ⟨w.heap.size, 1, none⟩ = some (.string sp) ∧ (((W.setCell ⟨w.heap.size + 1 + 1, 0, none⟩ q0).setCell ⟨w.heap.size + 1 + 1, 1, none⟩ q1).setCell ⟨w.heap.size + 1 + 1, 2, none⟩ q2).cell? ⟨w.heap.size, 2, none⟩ = some (.slice a1 N c1) ∧ (((W.setCell ⟨w.heap.size + 1 + 1, 0, none⟩ q0).setCell ⟨w.heap.size + 1 + 1, 1, none⟩ q1).setCell ⟨w.heap.size + 1 + 1, 2, none⟩ q2).cell? ⟨w.heap.size + 1, 0, none⟩ = some (.int .i64 xg) ∧ (((W.setCell ⟨w.heap.size + 1 + 1, 0, none⟩ q0).setCell ⟨w.heap.size + 1 + 1, 1, none⟩ q1).setCell ⟨w.heap.size + 1 + 1, 2, none⟩ q2).cell? ⟨w.heap.size + 1, 1, none⟩ = some (.string xk) ∧ (((W.setCell ⟨w.heap.size + 1 + 1, 0, none⟩ q0).setCell ⟨w.heap.size + 1 + 1, 1, none⟩ q1).setCell ⟨w.heap.size + 1 + 1, 2, none⟩ q2).cell? ⟨w.heap.size + 1, 2, none⟩ = some (.int .i64 xf) ∧ (((W.setCell ⟨w.heap.size + 1 + 1, 0, none⟩ q0).setCell ⟨w.heap.size + 1 + 1, 1, none⟩ q1).setCell ⟨w.heap.size + 1 + 1, 2, none⟩ q2).cell? ⟨w.heap.size + 1, 3, none⟩ = some (.int .i64 xt)) := Lib.hid (fun W q0 q1 q2 hW => by
      have k0 := set3_far (b := w.heap.size + 1 + 1) (x' := q0) (y' := q1) (z' := q2) (hold_b3 HB0.out (grown_trans HG.out hW)) (by omega)
      have k1 := set3_far (b := w.heap.size + 1 + 1) (x' := q0) (y' := q1) (z' := q2) (hold_b3 HB1.out (grown_trans HG.out hW)) (by omega)
      exact ⟨cell_blk k0 0 rfl, cell_blk k0 1 rfl, cell_blk k0 2 rfl, cell_blk k1 0 rfl, cell_blk k1 1 rfl, cell_blk k1 2 rfl, cell_blk k1 3 rfl⟩)
    go_region_held3 (fun w' => w'.cell? ⟨w.heap.size, 0, none⟩ = some (.int .i64 v) ∧ w'.cell? ⟨w.heap.size, 1, none⟩ = some (.string sp) ∧ w'.cell? ⟨w.heap.size, 2, none⟩ = some (.slice a1 N c1) ∧ w'.cell? ⟨w.heap.size + 1, 0, none⟩ = some (.int .i64 xg) ∧ w'.cell? ⟨w.heap.size + 1, 1, none⟩ = some (.string xk) ∧ w'.cell? ⟨w.heap.size + 1, 2, none⟩ = some (.int .i64 xf) ∧ w'.cell? ⟨w.heap.size + 1, 3, none⟩ = some (.int .i64 xt))
      (first
        | exact HS.out _ (grown_drewN (grown_refl _ _) 1)
        | exact HS.out _ (grown_drewN (grown_alloc (grown_refl _ _) _) 1)
        | exact HS.out _ (grown_alloc (grown_drewN (grown_refl _ _) 1) _)
        | exact HS.out _ K38.out
        | exact HS.out _ K37.out
        | exact HS.out _ K36.out
        | exact HS.out _ (grown_alloc K33.out _)
        | exact HS.out _ K33.out
        | exact HSf.out _ _ _ _ K38.out)
      ((first
        | (go_at_call 24; refine (HCl.out _ (grown_trans HG1.out (grown_trans HG.out (by first | exact grown_drewN (grown_refl _ _) 1 | exact grown_alloc (grown_drewN (grown_refl _ _) 1) _ | exact grown_drewN (grown_alloc (grown_refl _ _) _) 1)))).mono ?_; rintro e w33 ⟨v33, rfl, ho, hg⟩; have K33 : Hid (wr.grownBy w33 none) := Lib.hid (grown_trans (by first | exact grown_drewN (grown_refl _ _) 1 | exact grown_alloc (grown_drewN (grown_refl _ _) 1) _ | exact grown_drewN (grown_alloc (grown_refl _ _) _) 1) hg); have G33 := Lib.hid hg; have O33 : Hid (w33.ownsRow wr.heap.size 33 4 v33 N (cellsA l)) := Lib.hid (Go.Joins.ownsRow_le ho (by first | exact Nat.le_refl _ | exact (grown_alloc (grown_drewN (grown_refl _ none) 1) _).size | exact (grown_drewN (grown_alloc (grown_refl _ none) _) 1).size)); clear ho hg)
        | (refine step_second (w0 := wr) (by rfl) (.tmp 15) (.tmp 17) 22 (by rfl) 33 _ 4 40 Tryz.underlying22 hIf rfl (by decide) (by decide) v33 N (cellsA l) (by rfl) (grown_alloc K33.out _) (O33.out.alloc _) _ 1 (cellsA [⟨xg, xk, xf, xt⟩]) (by rfl) (Ans.lit (x := ⟨xg, xk, xf, xt⟩) (alloc_at _ _)).1 (Whole0.some _ _ _) (cellsA_one _) (by omega) ?_; intro v36 w36 ho hg; have O36 := Lib.hid ho; have K36 := Lib.hid hg; clear ho hg)
        | (refine step_second (w0 := wr) (by rfl) (.tmp 15) (.tmp 17) 22 (by rfl) 33 _ 4 40 Tryz.underlying22 hIf rfl (by decide) (by decide) v33 N (cellsA l) (by rfl) K33.out O33.out _ 1 (cellsA [⟨xg, xk, xf, xt⟩]) (by rfl) (Ans.lit (x := ⟨xg, xk, xf, xt⟩) (by first | exact hold_b3 (alloc_at _ _) G33.out | exact hold_b3 (alloc_at _ _) (grown_of_drewN (n := 1) G33.out))).1 (Whole0.some _ _ _) (cellsA_one _) (by omega) ?_; intro v36 w36 ho hg; have O36 := Lib.hid ho; have K36 := Lib.hid hg; clear ho hg)
        | (go_at_call 23; refine (HRi.out _ _ _ O36.out).mono ?_; rintro e w37 ⟨rfl, l', hp, hs, ha, gg, hgg, hg⟩; have A37 := Lib.hid ha; have P37 := Lib.hid hp; have S37 := Lib.hid hs; have F37 := Lib.hid (Fits.own O36.out); have K37 := Lib.hid (grown_forget K36.out (O36.out.lt _ hgg).1 hg); clear ha hp hs hg hgg)
        | (go_at_call 22; refine (HNx.out _ _ _ (grown_trans HG1.out (grown_trans HG.out K37.out)) A37.out F37.out P37.out S37.out).mono ?_; rintro e w38 ⟨v38, rfl, ha, hf, hg⟩; obtain ⟨a38, _, _, c38, rfl, -, -, -⟩ := ha.form; have A38 := Lib.hid ha; have F38 := Lib.hid hf; have K38 := Lib.hid (grown_trans K37.out hg); have HZ8 := Lib.hid (hold_b3 HZ.out K38.out); have y0 := free_blk HZ8.out 0; have y1 := free_blk HZ8.out 1; have y2 := free_blk HZ8.out 2; have z0 := cell_blk HZ8.out 0 rfl; have z1 := cell_blk HZ8.out 1 rfl; have z2 := cell_blk HZ8.out 2 rfl; clear ha hf hg)))
    all_goals
      go_wp2
      refine bodyPost_ret (v := .tuple #[.agg #[.int .i64 _, .string _, .slice a38 _ c38], _]) ?_ rfl ⟨_, rfl, A38.out.set3 HZ8.out, F38.out, grown_set (grown_set (grown_set (grown_trans HG1.out (grown_trans HG.out K38.out)) (.inl (show w.heap.size ≤ w.heap.size + 1 + 1 from by omega)) _) (.inl (show w.heap.size ≤ w.heap.size + 1 + 1 from by omega)) _) (.inl (show w.heap.size ≤ w.heap.size + 1 + 1 from by omega)) _⟩
      exact results_rowT Tryz.results8 _ _ (w.heap.size + 1 + 1) _ _ (0, 0) _ _ rfl (set3 HZ8.out) Tryz.underlying24 rfl hI rfl
end Go.Proofs.YtihioekepflpiaaGreatDoor
namespace Go.Proofs.YtihioekepflpiaaGreatDoor
open Go.RowKit Bu
theorem without_ix (v : Int) (sp : ByteArray) (l : List An) (g : Int) : (ixB (qG g) l < 0 ∧ without ⟨v, sp, l⟩ g = (18, bd0)) ∨ ∃ j : Nat, j < l.length ∧ ixB (qG g) l = j ∧ without ⟨v, sp, l⟩ g = next ⟨v, sp, l⟩ (l.take j ++ l.drop (j + 1)) := by
  by_cases h : ∀ j, j < l.length → (l.getD j an0).g ≠ g
  · refine .inl ⟨?_, wo_none h v sp⟩
    rw [ixB_none (fun j hj => decide_eq_false (h j hj))]; decide
  · obtain ⟨j, hj, hi, hq⟩ : ∃ j, j < l.length ∧ (∀ i, i < j → (l.getD i an0).g ≠ g) ∧ (l.getD j an0).g = g := by
      have hex : ∃ j, j < l.length ∧ (l.getD j an0).g = g := by
        obtain ⟨j, hj⟩ := Classical.not_forall.1 h
        obtain ⟨hj, hq⟩ := Classical.not_imp.1 hj
        exact ⟨j, hj, Classical.not_not.1 hq⟩
      have key : ∀ n j, j ≤ n → j < l.length → (l.getD j an0).g = g → ∃ j, j < l.length ∧ (∀ i, i < j → (l.getD i an0).g ≠ g) ∧ (l.getD j an0).g = g := by
        intro n
        induction n with
        | zero => intro j h0 hj hq; exact ⟨j, hj, fun i hi => by omega, hq⟩
        | succ n ih =>
          intro j h0 hj hq
          by_cases hx : ∃ i, i < j ∧ (l.getD i an0).g = g
          · obtain ⟨i, hi, hqi⟩ := hx
            exact ih i (by omega) (by omega) hqi
          · exact ⟨j, hj, fun i hi hqi => hx ⟨i, hi, hqi⟩, hq⟩
      obtain ⟨j, hj, hq⟩ := hex
      exact key j j (Nat.le_refl _) hj hq
    exact .inr ⟨j, hj, ixB_at hj (fun i hi' => decide_eq_false (hi i hi')) (decide_eq_true hq), wo_at hj hi hq v sp⟩
set_option maxRecDepth 100000 in
set_option maxHeartbeats 16000000 in
theorem bwithout_any (A : Nat → Addr) (v : Int) (sp : ByteArray) (a : Value) (l : List An) (g : Int) (w : World) (hA : Ans w a l) (hl : l.length ≤ 900) (hk : ∀ x ∈ l, x.k.size ≤ 1000) (hsp : sp.size ≤ 1000) (hE : AllErrs w A) (hv1 : -9223372036854775808 ≤ v) (hv2 : v ≤ 9223372036854775807) :
    Calls Tryz.prog 10 #[.agg #[.int .i64 v, .string sp, a], .int .i64 g] w (BdP A (without ⟨v, sp, l⟩ g) w) := by
  have hI := bd_info
  have HCl := Lib.hid (fun W (hW : w.grownBy W none) => anClone_any a l W (hA.grown hW) (by omega))
  have HIx := Lib.hid (fun W (hW : w.grownBy W none) p9 hp => ixG_any a l g p9 W (hA.grown hW) hp (by omega))
  have HNx := Lib.hid (fun W u j (hW : w.grownBy W none) (hu : Ans W u (l.take j ++ l.drop (j + 1))) (hf : Fits u) => bnext_out A v sp a u l (l.take j ++ l.drop (j + 1)) W (hA.grown hW) hu hf (by rw [List.length_append, List.length_take, List.length_drop]; omega) (fun x hx => by
    rcases List.mem_append.1 hx with h | h
    · exact hk x (List.mem_of_mem_take h)
    · exact hk x (List.mem_of_mem_drop h)) hsp (hE.grown hW) hv1 hv2)
  obtain ⟨w1, hw1⟩ : ∃ w1, w1 = ((w.alloc (.cells #[.int .i64 v, .string sp, a] 24)).alloc (.cells #[.int .i64 g] 3)).alloc (.cells #[.int .i64 0, .string ⟨#[]⟩, .slice none 0 0] 24) := ⟨_, rfl⟩
  have hg1 : w.grownBy w1 none := by rw [hw1]; exact grown_alloc (grown_alloc (World.grownBy_alloc _ _ _) _) _
  have b0 : w1.heap[w.heap.size]? = some (.cells #[.int .i64 v, .string sp, a] 24 (0, 0)) := by rw [hw1]; exact alloc_keep (alloc2_old _ _ _)
  have b1 : w1.heap[w.heap.size + 1]? = some (.cells #[.int .i64 g] 3 (0, 0)) := by rw [hw1]; exact alloc_keep (alloc2_new _ _ _)
  have b2 : w1.heap[w.heap.size + 1 + 1]? = some (.cells #[.int .i64 0, .string ⟨#[]⟩, .slice none 0 0] 24 (0, 0)) := by
    rw [hw1]
    have := alloc_at ((w.alloc (.cells #[.int .i64 v, .string sp, a] 24)).alloc (.cells #[.int .i64 g] 3)) (.cells #[.int .i64 0, .string ⟨#[]⟩, .slice none 0 0] 24)
    rw [alloc_size, alloc_size] at this; exact this
  have HIx1 := Lib.hid (HIx.out w1 hg1 (w.heap.size + 1) (cell_blk b1 0 rfl))
  have HEr := Lib.hid (fun W (hg : w.grownBy W none) => (hE.grown hg).at_ 17 (by omega))
  have HEz := Lib.hid (hE.lt 17 (by omega))
  have HCs := Lib.hid (without_ix v sp l g)
  have HDe := Lib.hid (fun base g c i W h hi => anDelete_any base g c i l W h hi (by omega))
  obtain ⟨R, hR⟩ : ∃ R, R = without ⟨v, sp, l⟩ g := ⟨_, rfl⟩
  rw [← hR] at HCs ⊢
  generalize ixB (qG g) l = X at *
  obtain ⟨a1, g1, s1, c1, rfl, -, -, -⟩ := hA.form
  obtain ⟨N, hN⟩ : ∃ N, N = l.length := ⟨_, rfl⟩
  rw [← hN] at HIx1 HCl HNx HCs HDe b0 hw1 hl ⊢
  have HW1 := Lib.hid hw1
  have HB0 := Lib.hid b0
  have HB2 := Lib.hid b2
  have HG1 := Lib.hid hg1
  have d0 := cell_blk b0 2 rfl
  rw [hw1] at d0
  clear hA hk hsp hw1 hg1 b0 b1 b2 hN hR hv1 hv2 hE HIx
  rcases HCs.out with ⟨hX, hRR⟩ | ⟨j, hj, hX, hRR⟩
  · rw [hRR]
    clear hRR HCs
    go_enter Tryz.func10, Tryz.ntmps10
    go_wp2_with (go_at_call 27; rw [← HW1.out]; refine HIx1.out.mono ?_; rintro e w5 ⟨rfl, hg5⟩; have HG5 := Lib.hid (grown_trans HG1.out hg5); have HZ5 := Lib.hid (hold_b3 HB2.out hg5); have y0 := free_blk HZ5.out 0; have y1 := free_blk HZ5.out 1; have y2 := free_blk HZ5.out 2; have z0 := cell_blk HZ5.out 0 rfl; have z1 := cell_blk HZ5.out 1 rfl; have z2 := cell_blk HZ5.out 2 rfl; clear hg5)
    have he := HEr.out _ HG5.out
    have hz : 1 < w.heap.size := HEz.out
    have hz1 : w.heap.size + 1 + 1 ≠ 1 := by omega
    have hz2 : 1 ≠ w.heap.size + 1 + 1 := by omega
    replace he : w5.cell? ⟨1, 0, none⟩ = some (errV A 18) := he
    go_region
    go_wp2
    refine bodyPost_ret (v := .tuple #[.agg #[.int .i64 0, .string ⟨#[]⟩, .slice none 0 0], errV A 18]) ?_ rfl ⟨.slice none 0 0, rfl, Ans.nil _, Fits.nil, ?_⟩
    · exact results_rowT Tryz.results10 _ _ (w.heap.size + 1 + 1) _ _ (0, 0) _ _ rfl (set3 HZ5.out) Tryz.underlying24 rfl hI rfl
    · exact grown_drewN (grown_set (grown_set (grown_set HG5.out (.inl (show w.heap.size ≤ w.heap.size + 1 + 1 from by omega)) _) (.inl (show w.heap.size ≤ w.heap.size + 1 + 1 from by omega)) _) (.inl (show w.heap.size ≤ w.heap.size + 1 + 1 from by omega)) _) 1
  · rw [hRR]
    rw [hX] at HIx1
    obtain ⟨R', hR'⟩ : ∃ R', R' = next ⟨v, sp, l⟩ (l.take j ++ l.drop (j + 1)) := ⟨_, rfl⟩
    have HNj := Lib.hid (fun W u => HNx.out W u j)
    rw [← hR'] at HNj ⊢
    have HDj := Lib.hid (fun base g c W h => HDe.out base g c j W h hj)
    have hX0 : ¬ (j : Int) < 0 := by omega
    have hj1 : wrap64 ((j : Int) + 1) = (j : Int) + 1 := by unfold wrap64; omega
    have hj7 : IntKind.i64.wrap ((j : Int) + 1) = (j : Int) + 1 := by rw [IntKind.wrap_i64]; omega
    clear hRR HCs hX HNx HDe hR' HEr HEz
    go_enter Tryz.func10, Tryz.ntmps10
    go_wp2_with (go_at_call 27; rw [← HW1.out]; refine HIx1.out.mono ?_; rintro e wr ⟨rfl, hg5⟩; have HG := Lib.hid hg5; have HZ := Lib.hid (hold_b3 HB2.out hg5); clear hg5)
    have HS : Hid (∀ W, wr.grownBy W none → W.cell? ⟨w.heap.size, 0, none⟩ = some (.int .i64 v) ∧ W.cell? ⟨w.heap.size, 1, none⟩ = some (.string sp) ∧ W.cell? ⟨w.heap.size, 2, none⟩ = some (.slice a1 N c1)) := Lib.hid (fun W hW => by
      have k0 := hold_b3 HB0.out (grown_trans HG.out hW)
      exact ⟨cell_blk k0 0 rfl, cell_blk k0 1 rfl, cell_blk k0 2 rfl⟩)
    have HSf : Hid (∀ W q0 q1 q2, wr.grownBy W none → (((W.setCell ⟨w.heap.size + 1 + 1, 0, none⟩ q0).setCell ⟨w.heap.size + 1 + 1, 1, none⟩ q1).setCell ⟨w.heap.size + 1 + 1, 2, none⟩ q2).cell? ⟨w.heap.size, 0, none⟩ = some (.int .i64 v) ∧ (((W.setCell ⟨w.heap.size + 1 + 1, 0, none⟩ q0).setCell ⟨w.heap.size + 1 + 1, 1, none⟩ q1).setCell ⟨w.heap.size + 1 + 1, 2, none⟩ q2).cell? ⟨w.heap.size, 1, none⟩ = some (.string sp) ∧ (((W.setCell ⟨w.heap.size + 1 + 1, 0, none⟩ q0).setCell ⟨w.heap.size + 1 + 1, 1, none⟩ q1).setCell ⟨w.heap.size + 1 + 1, 2, none⟩ q2).cell? ⟨w.heap.size, 2, none⟩ = some (.slice a1 N c1)) := Lib.hid (fun W q0 q1 q2 hW => by
      have k0 := set3_far (b := w.heap.size + 1 + 1) (x' := q0) (y' := q1) (z' := q2) (hold_b3 HB0.out (grown_trans HG.out hW)) (by omega)
      exact ⟨cell_blk k0 0 rfl, cell_blk k0 1 rfl, cell_blk k0 2 rfl⟩)
    go_region_held3 (fun w' => w'.cell? ⟨w.heap.size, 0, none⟩ = some (.int .i64 v) ∧ w'.cell? ⟨w.heap.size, 1, none⟩ = some (.string sp) ∧ w'.cell? ⟨w.heap.size, 2, none⟩ = some (.slice a1 N c1))
      (first
        | exact HS.out _ (grown_drewN (grown_refl _ _) 1)
        | exact HS.out _ K38.out
        | exact HS.out _ K37.out
        | exact HS.out _ K33.out
        | exact HSf.out _ _ _ _ K38.out)
      ((first
        | (go_at_call 24; refine (HCl.out _ (grown_trans HG1.out (grown_trans HG.out (grown_drewN (grown_refl _ _) 1)))).mono ?_; rintro e w33 ⟨v33, rfl, ho, hg⟩; obtain ⟨g33, c33, rfl⟩ := Go.Joins.ownsRow_form ho (by omega); have K33 : Hid (wr.grownBy w33 none) := Lib.hid (grown_trans (grown_drewN (grown_refl _ _) 1) hg); have O33 : Hid (w33.ownsRow wr.heap.size 33 4 (.slice (some ⟨g33, 0, none⟩) N c33) N (cellsA l)) := Lib.hid ho; clear ho hg)
        | (go_at_call 29; refine (HDj.out _ _ _ _ O33.out).mono ?_; rintro e w37 ⟨rfl, ho, hg⟩; have A37 := Lib.hid (Ans.own ho).2; have F37 := Lib.hid (Fits.own ho); have K37 : Hid (wr.grownBy w37 none) := Lib.hid (grown_forget K33.out (O33.out.lt _ rfl).1 hg); clear ho hg)
        | (go_at_call 22; refine (HNj.out _ _ (grown_trans HG1.out (grown_trans HG.out K37.out)) A37.out F37.out).mono ?_; rintro e w38 ⟨v38, rfl, ha, hf, hg⟩; obtain ⟨a38, _, _, c38, rfl, -, -, -⟩ := ha.form; have A38 := Lib.hid ha; have F38 := Lib.hid hf; have K38 := Lib.hid (grown_trans K37.out hg); have HZ8 := Lib.hid (hold_b3 HZ.out K38.out); have y0 := free_blk HZ8.out 0; have y1 := free_blk HZ8.out 1; have y2 := free_blk HZ8.out 2; have z0 := cell_blk HZ8.out 0 rfl; have z1 := cell_blk HZ8.out 1 rfl; have z2 := cell_blk HZ8.out 2 rfl; clear ha hf hg)))
    all_goals
      go_wp2
      refine bodyPost_ret (v := .tuple #[.agg #[.int .i64 _, .string _, .slice a38 _ c38], _]) ?_ rfl ⟨_, rfl, A38.out.set3 HZ8.out, F38.out, grown_set (grown_set (grown_set (grown_trans HG1.out (grown_trans HG.out K38.out)) (.inl (show w.heap.size ≤ w.heap.size + 1 + 1 from by omega)) _) (.inl (show w.heap.size ≤ w.heap.size + 1 + 1 from by omega)) _) (.inl (show w.heap.size ≤ w.heap.size + 1 + 1 from by omega)) _⟩
      exact results_rowT Tryz.results10 _ _ (w.heap.size + 1 + 1) _ _ (0, 0) _ _ rfl (set3 HZ8.out) Tryz.underlying24 rfl hI rfl
end Go.Proofs.YtihioekepflpiaaGreatDoor
namespace Go.Proofs.YtihioekepflpiaaGreatDoor
open Go.RowKit Bu
namespace Bu
structure Stp where
  go : Bool
  x : An
def st0 : Stp := ⟨false, an0⟩
def Stp.cs (s : Stp) : List Value := .bool s.go :: s.x.cs
def cellsT : List Stp → List Value
  | [] => []
  | s :: r => s.cs ++ cellsT r
theorem cellsT_len : ∀ (l : List Stp), (cellsT l).length = l.length * 5
  | [] => rfl
  | a :: r => by rw [cellsT, List.length_append, cellsT_len r, List.length_cons]; simp [Stp.cs, An.cs]; omega
theorem cellsT_at : ∀ (l : List Stp) (i : Nat), i < l.length → (cellsT l)[i * 5]? = some (.bool (l.getD i st0).go) ∧ (cellsT l)[i * 5 + 1]? = some (.int .i64 (l.getD i st0).x.g) ∧ (cellsT l)[i * 5 + 2]? = some (.string (l.getD i st0).x.k) ∧ (cellsT l)[i * 5 + 3]? = some (.int .i64 (l.getD i st0).x.f) ∧ (cellsT l)[i * 5 + 4]? = some (.int .i64 (l.getD i st0).x.t)
  | a :: r, 0, _ => ⟨rfl, rfl, rfl, rfl, rfl⟩
  | a :: r, i + 1, h => by
    obtain ⟨h1, h2, h3, h4, h5⟩ := cellsT_at r i (by simpa using h)
    have e : ∀ q, (cellsT (a :: r))[(i + 1) * 5 + q]? = (cellsT r)[i * 5 + q]? := fun q => by
      rw [cellsT, show (i + 1) * 5 + q = a.cs.length + (i * 5 + q) by simp [Stp.cs, An.cs]; omega, List.getElem?_append_right (by omega), Nat.add_sub_cancel_left]
    exact ⟨(e 0).trans h1, (e 1).trans h2, (e 2).trans h3, (e 3).trans h4, (e 4).trans h5⟩
/-- A bundle that may be gone on with. -/
structure OkB (b : Bd) : Prop where
  len : b.l.length ≤ 900
  keys : ∀ x ∈ b.l, x.k.size ≤ 1000
  sp : b.sp.size ≤ 1000
  lo : -9223372036854775808 ≤ b.v
  hi : b.v ≤ 9223372036854775807
theorem okB_zero : OkB bd0 := ⟨Nat.zero_le _, fun x hx => (List.not_mem_nil hx).elim, Nat.zero_le _, by decide, by decide⟩
theorem next_ok {b : Bd} {l : List An} (hk : ∀ x ∈ l, x.k.size ≤ 1000) (hs : b.sp.size ≤ 1000) : OkB (next b l).2 := by
  unfold next
  split
  · rename_i h
    have e : right (nxt b l) = (decide (1 ≤ b.v + 1 ∧ b.v + 1 ≤ 1099511627776) && (Pt.label (strL b.sp) && okL l)) := rfl
    rw [e, Bool.and_eq_true, Bool.and_eq_true, decide_eq_true_eq] at h
    have h2 := h.2.2
    unfold okL at h2
    rw [Bool.and_eq_true, decide_eq_true_eq] at h2
    exact ⟨by show l.length ≤ 900; omega, hk, hs, by show -9223372036854775808 ≤ b.v + 1; omega, by show b.v + 1 ≤ 9223372036854775807; omega⟩
  · exact okB_zero
theorem withA_ok {b : Bd} {x : An} (h : OkB b) (hx : x.k.size ≤ 1000) : OkB (withA b x).2 := by
  unfold withA
  split
  · exact okB_zero
  · exact next_ok (srt_mem (fun y hy => by
      rcases List.mem_append.1 hy with h1 | h1
      · exact h.keys y h1
      · rw [List.mem_singleton.1 h1]; exact hx)) h.sp
theorem without_ok {b : Bd} {g : Int} (h : OkB b) : OkB (without b g).2 := by
  unfold without
  split
  · exact okB_zero
  · exact next_ok (fun y hy => by
      rcases List.mem_append.1 hy with h1 | h1
      · exact h.keys y (List.mem_of_mem_take h1)
      · exact h.keys y (List.mem_of_mem_drop h1)) h.sp
theorem next_e {b : Bd} {l : List An} : (next b l).1 ≤ 28 := by unfold next; split <;> simp
theorem withA_e {b : Bd} {x : An} : (withA b x).1 ≤ 28 := by
  unfold withA
  split
  · simp
  · exact next_e
theorem without_e {b : Bd} {g : Int} : (without b g).1 ≤ 28 := by
  unfold without
  split
  · simp
  · exact next_e
end Bu
open Bu
/-- The slice v has just these steps. -/
def StpsV (w : World) (v : Value) (l : List Stp) : Prop := RowV w v 5 l.length (cellsT l)
theorem StpsV.form {w : World} {v : Value} {l : List Stp} (h : StpsV w v l) : ∃ (a : Option Addr) (g o c : Nat), v = .slice a l.length c ∧ (0 < l.length → a = some ⟨g, o, none⟩ ∧ g < w.heap.size) ∧ ∀ W, w.grownBy W none → ∀ i, i < l.length →
    W.cell? ⟨g, o + i * 5, none⟩ = some (.bool (l.getD i st0).go) ∧ W.cell? ⟨g, o + i * 5 + 1, none⟩ = some (.int .i64 (l.getD i st0).x.g) ∧ W.cell? ⟨g, o + i * 5 + 2, none⟩ = some (.string (l.getD i st0).x.k) ∧ W.cell? ⟨g, o + i * 5 + 3, none⟩ = some (.int .i64 (l.getD i st0).x.f) ∧ W.cell? ⟨g, o + i * 5 + 4, none⟩ = some (.int .i64 (l.getD i st0).x.t) := by
  obtain ⟨_, a, g, o, c, rfl, h2, h3⟩ := h
  refine ⟨a, g, o, c, rfl, h2, fun W hg i hi => ?_⟩
  obtain ⟨k1, k2, k3, k4, k5⟩ := cellsT_at l i hi
  have hb := hg.block g (h2 (by omega)).2 (by simp)
  exact ⟨(World.cell?_of_block hb).trans (h3 _ _ k1), (World.cell?_of_block hb).trans (h3 _ _ k2), (World.cell?_of_block hb).trans (h3 _ _ k3), (World.cell?_of_block hb).trans (h3 _ _ k4), (World.cell?_of_block hb).trans (h3 _ _ k5)⟩
end Go.Proofs.YtihioekepflpiaaGreatDoor
namespace Go.Proofs.YtihioekepflpiaaGreatDoor
open Go.RowKit Bu
def bv (b : Bd) (p : Value) : Value := .agg #[.int .i64 b.v, .string b.sp, p]
theorem longB_ok {sp : ByteArray} {l : List An} (h : longB sp l = false) : sp.size ≤ 100 ∧ l.length ≤ 20 ∧ ∀ x ∈ l, x.k.size ≤ 100 := by
  unfold longB at h
  rw [Bool.or_eq_false_iff, Bool.or_eq_false_iff, decide_eq_false_iff_not, decide_eq_false_iff_not, List.any_eq_false] at h
  refine ⟨by omega, by omega, fun x hx => ?_⟩
  have := h.2.2 x hx
  rw [decide_eq_true_eq] at this
  omega
/-- What the law holds from round to round. -/
structure StS (w wr : World) (b2 b5 : Nat) (b : Bd) (p q : Value) : Prop where
  gr : w.grownBy wr none
  ok : OkB b
  h2 : wr.heap[b2]? = some (.cells #[.int .i64 b.v, .string b.sp, p] 24 (0, 0))
  a2 : Ans wr p b.l
  h5 : wr.heap[b5]? = some (.cells #[.int .i64 b.v, .string b.sp, q] 30 (0, 0))
  a5 : Ans wr q b.l
  f5 : Fits q
theorem StS.grown {w wr W : World} {b2 b5 : Nat} {b : Bd} {p q : Value} (h : StS w wr b2 b5 b p q) (hg : wr.grownBy W none) : StS w W b2 b5 b p q :=
  ⟨grown_trans h.gr hg, h.ok, hold_b3 h.h2 hg, h.a2.grown hg, hold_b3 h.h5 hg, h.a5.grown hg, h.f5⟩
theorem findV_form (l : List An) (k : ByteArray) (g : Int) : ∃ yg yk yf yt fb, findV l k g = .tuple #[.agg #[.int .i64 yg, .string yk, .int .i64 yf, .int .i64 yt], .bool fb] := by
  unfold findV
  split
  · exact ⟨_, _, _, _, _, rfl⟩
  · exact ⟨_, _, _, _, _, rfl⟩
set_option maxRecDepth 100000 in
set_option maxHeartbeats 40000000 in
theorem bsteps_any (A : Nat → Addr) (v : Int) (sp : ByteArray) (a : Value) (l : List An) (u : Value) (ss : List Stp) (w : World) (hA : Ans w a l) (hS : StpsV w u ss) (hE : AllErrs w A) (hv1 : -9223372036854775808 ≤ v) (hv2 : v ≤ 9223372036854775807)
    (hAl : ∀ W, w.grownBy W none → Calls Tryz.prog 5 #[] W fun e w' => e = .returned (.bool true) ∧ W.grownBy w' none) :
    Calls Tryz.prog 3 #[.agg #[.int .i64 v, .string sp, a], u] w fun e w' => e = .returned (.bool true) ∧ w.grownBy w' none := by
  have hI := bd_info
  have hJ := rbd_info
  have hIa := an_info
  have hJa := ran_info
  obtain ⟨w1, hw1⟩ : ∃ w1, w1 = w.alloc (.cells #[.int .i64 v, .string sp, a] 24) := ⟨_, rfl⟩
  have hg1 : w.grownBy w1 none := by rw [hw1]; exact World.grownBy_alloc _ _ _
  have b0 : w1.heap[w.heap.size]? = some (.cells #[.int .i64 v, .string sp, a] 24 (0, 0)) := by rw [hw1]; exact alloc_at _ _
  have HAl := Lib.hid hAl
  have HLo := Lib.hid (fun W (hW : w.grownBy W none) => longB_any v sp a l W (hA.grown hW))
  have HOf := Lib.hid (fun b p W (ok : OkB b) (hp : Ans W p b.l) => ofB_any b.v b.sp p b.l W hp (by have := ok.len; omega))
  have HNm := Lib.hid (fun k (hk : k ≤ 28) W (hW : w.grownBy W none) => num_of A k hk W (hE.grown hW))
  have HSm := Lib.hid (fun (b : Bd) p q W (ok : OkB b) (hp : Ans W p b.l) (hq : Ans W q b.l) => (refSameB_any b.v b.v b.sp b.sp p q b.l b.l W hp hq (by have := ok.len; omega) (by have := ok.len; omega)).mono (fun e w' (h : (∃ r : Bool, e = .returned (.bool r) ∧ (r = true ↔ (b.v = b.v ∧ b.sp = b.sp ∧ b.l = b.l))) ∧ W.grownBy w' none) => (show e = .returned (.bool true) ∧ W.grownBy w' none from by
    obtain ⟨⟨r, he, hr⟩, hg⟩ := h
    rw [hr.2 ⟨rfl, rfl, rfl⟩] at he
    exact ⟨he, hg⟩)))
  have HPW := Lib.hid (fun b p x W (ok : OkB b) (hp : Ans W p b.l) (hx : x.k.size ≤ 1000) (hW : w.grownBy W none) => bwith_any A b.v b.sp p b.l x W hp ok.len ok.keys hx ok.sp (hE.grown hW) ok.lo ok.hi)
  have HDW := Lib.hid (fun b p x W (ok : OkB b) (hp : Ans W p b.l) (hx : x.k.size ≤ 1000) => refWithB_any b.v b.sp p b.l x W hp (by have := ok.len; omega) ok.keys hx ok.sp ok.lo)
  have HPO := Lib.hid (fun b p g W (ok : OkB b) (hp : Ans W p b.l) (hW : w.grownBy W none) => bwithout_any A b.v b.sp p b.l g W hp ok.len ok.keys ok.sp (hE.grown hW) ok.lo ok.hi)
  have HDO := Lib.hid (fun b p g W (ok : OkB b) (hp : Ans W p b.l) (hf : Fits p) => refWithoutB_any b.v b.sp p b.l g W hp hf (by have := ok.len; omega) ok.keys ok.sp ok.lo)
  have HPF := Lib.hid (fun (b : Bd) p k g W (ok : OkB b) (hp : Ans W p b.l) => bfind_any b.v b.sp p b.l k g W hp (by have := ok.len; omega))
  have HDF := Lib.hid (fun (b : Bd) p k g W (ok : OkB b) (hp : Ans W p b.l) => refFind_any b.v b.sp p b.l k g W hp (by have := ok.len; omega))
  obtain ⟨us, gs, os, cs, rfl, hs1, hs2⟩ := hS.form
  have HSs := Lib.hid hs2
  have HLk := Lib.hid (fun (h : longB sp l = false) => (show OkB ⟨v, sp, l⟩ from by
    obtain ⟨k1, k2, k3⟩ := longB_ok h
    exact ⟨by show l.length ≤ 900; omega, fun x hx => by have := k3 x hx; omega, by show sp.size ≤ 1000; omega, hv1, hv2⟩))
  have HAg := Lib.hid (fun W (hW : w.grownBy W none) => hA.grown hW)
  obtain ⟨a1, ag, ao, c1, rfl, -, -, -⟩ := hA.form
  obtain ⟨n, hn⟩ : ∃ n, n = ss.length := ⟨_, rfl⟩
  have HU1 : Hid (0 < n → us = some ⟨gs, os, none⟩) := Lib.hid (fun h => (hs1 (by omega)).1)
  rw [← hn] at HSs ⊢
  generalize hln : l.length = ln at *
  have HW1 := Lib.hid hw1
  have HB0 := Lib.hid b0
  have HG1 := Lib.hid hg1
  clear hA hS hE hv1 hv2 hAl hw1 hg1 b0 hs1 hs2 hn hln
  cases hlb : longB sp l with
  | true =>
    rw [hlb] at HLo
    clear hlb
    go_enter Tryz.func3, Tryz.ntmps3
    go_wp2_with (first
      | (go_at_call 5; rw [← HW1.out]; refine (HAl.out _ HG1.out).mono ?_; rintro e w2 ⟨rfl, hg2⟩; have HG2 := Lib.hid (grown_trans HG1.out hg2); have HB2 := Lib.hid (hold_b3 HB0.out hg2); clear hg2)
      | (refine wpList_load_row (by rfl) 24 (.tmp 2) (by rfl) w.heap.size (by rfl) 24 #[.int .i64 v, .string sp, .slice a1 ln c1] (0, 0) _ HB2.out Tryz.underlying24 rfl hI ?_)
      | (go_at_call 6; refine (HLo.out _ HG2.out).mono ?_; rintro e w3 ⟨rfl, hg3⟩; have HG3 := Lib.hid (grown_trans HG2.out hg3); clear hg3))
    go_ret
    exact ⟨rfl, HG3.out⟩
  | false =>
    rw [hlb] at HLo
    have HOk := Lib.hid (HLk.out hlb)
    clear hlb HLk
    by_cases hn30 : 30 < n
    · have hni : (30 : Int) < (n : Int) := by omega
      go_enter Tryz.func3, Tryz.ntmps3
      go_wp2_with (first
        | (go_at_call 5; rw [← HW1.out]; refine (HAl.out _ HG1.out).mono ?_; rintro e w2 ⟨rfl, hg2⟩; have HG2 := Lib.hid (grown_trans HG1.out hg2); have HB2 := Lib.hid (hold_b3 HB0.out hg2); clear hg2)
        | (refine wpList_load_row (by rfl) 24 (.tmp 2) (by rfl) w.heap.size (by rfl) 24 #[.int .i64 v, .string sp, .slice a1 ln c1] (0, 0) _ HB2.out Tryz.underlying24 rfl hI ?_)
        | (go_at_call 6; refine (HLo.out _ HG2.out).mono ?_; rintro e w3 ⟨rfl, hg3⟩; have HG3 := Lib.hid (grown_trans HG2.out hg3); clear hg3))
      go_ret
      exact ⟨rfl, HG3.out⟩
    · have hni : ¬ (30 : Int) < (n : Int) := by omega
      go_enter Tryz.func3, Tryz.ntmps3
      go_wp2_with (first
        | (go_at_call 5; rw [← HW1.out]; refine (HAl.out _ HG1.out).mono ?_; rintro e w2 ⟨rfl, hg2⟩; have HG2 := Lib.hid (grown_trans HG1.out hg2); have HB2 := Lib.hid (hold_b3 HB0.out hg2); clear hg2)
        | (refine wpList_load_row (by rfl) 24 (.tmp 2) (by rfl) w.heap.size (by rfl) 24 #[.int .i64 v, .string sp, .slice a1 ln c1] (0, 0) _ HB2.out Tryz.underlying24 rfl hI ?_)
        | (go_at_call 6; refine (HLo.out _ HG2.out).mono ?_; rintro e w3 ⟨rfl, hg3⟩; have HG3 := Lib.hid (grown_trans HG2.out hg3); have HB3 := Lib.hid (hold_b3 HB2.out hg3); clear hg3)
        | (refine wpList_load_row (by rfl) 24 (.tmp 2) (by rfl) w.heap.size (by rfl) 24 #[.int .i64 v, .string sp, .slice a1 ln c1] (0, 0) _ HB3.out Tryz.underlying24 rfl hI ?_)
        | (go_at_call 7; refine (HOf.out ⟨v, sp, l⟩ _ _ HOk.out (HAg.out _ HG3.out)).mono ?_; rintro e w4 ⟨p4, rfl, ha4, hf4, hg4⟩; obtain ⟨a4, g4, o4, c4, rfl, -, -, -⟩ := ha4.form; have HA4 := Lib.hid ha4; have HF4 := Lib.hid hf4; have HG4 := Lib.hid (grown_trans HG3.out hg4); have HB4 := Lib.hid (hold_b3 HB3.out hg4); clear ha4 hf4 hg4))
      obtain ⟨w5, hw5⟩ : ∃ w5, w5 = w4.alloc (.cells #[.int .i64 v, .string sp, .slice a4 l.length c4] 30) := ⟨_, rfl⟩
      have HT5 : Hid (StS w w5 w.heap.size w4.heap.size ⟨v, sp, l⟩ (.slice a1 ln c1) (.slice a4 l.length c4)) := Lib.hid (by
        have hg5 : w4.grownBy w5 none := by rw [hw5]; exact World.grownBy_alloc _ _ _
        exact ⟨grown_trans HG4.out hg5, HOk.out, hold_b3 HB4.out hg5, HAg.out _ (grown_trans HG4.out hg5), by rw [hw5]; exact alloc_at _ _, HA4.out.grown hg5, HF4.out⟩)
      rw [← hw5]
      clear hw5
      go_loopw [30] (fun i wr => ∃ (j : Nat) (b : Bd) (p q : Value), j ≤ n ∧ i = .int .i64 (j : Int) ∧ StS w wr w.heap.size w4.heap.size b p q) (fun i _ => n - (intOf i).toNat)
      case atStart => exact ⟨0, _, _, _, Nat.zero_le _, rfl, HT5.out⟩
      case round =>
        obtain ⟨j, b, p, q, hj, rfl, ht⟩ := hrel
        have HT := Lib.hid ht
        obtain ⟨pa, _, _, pc, rfl, -, -, -⟩ := ht.a2.form
        obtain ⟨qa, _, _, qc, rfl, -, -, -⟩ := ht.a5.form
        clear ht
        by_cases hjn : j < n
        · obtain ⟨x0, x1, x2, x3, x4⟩ := HSs.out wr HT.out.gr j hjn
          obtain rfl := HU1.out (by omega)
          generalize (ss.getD j st0).go = go at *
          generalize (ss.getD j st0).x.g = xg at *
          generalize (ss.getD j st0).x.k = xk at *
          generalize (ss.getD j st0).x.f = xf at *
          generalize (ss.getD j st0).x.t = xt at *
          by_cases hk : 100 < xk.size
          · have hk2 : (100 : Int) < (xk.size : Int) := by omega
            go_wp2
            go_ret
            exact ⟨rfl, grown_alloc HT.out.gr _⟩
          · have hk2 : ¬ (100 : Int) < (xk.size : Int) := by omega
            obtain ⟨R0, hR0⟩ : ∃ R0, R0 = withA b ⟨xg, xk, xf, xt⟩ := ⟨_, rfl⟩
            obtain ⟨R1, hR1⟩ : ∃ R1, R1 = without b xg := ⟨_, rfl⟩
            have HP1 : Hid (∀ p W, Ans W p b.l → w.grownBy W none → Calls Tryz.prog 8 #[.agg #[.int .i64 b.v, .string b.sp, p], .agg #[.int .i64 xg, .string xk, .int .i64 xf, .int .i64 xt]] W (BdP A R0 W)) := Lib.hid (fun p W hp hW => by rw [hR0]; exact HPW.out b p ⟨xg, xk, xf, xt⟩ W HT.out.ok hp (by show xk.size ≤ 1000; omega) hW)
            have HD1 : Hid (∀ p W, Ans W p b.l → Calls Tryz.prog 9 #[.agg #[.int .i64 b.v, .string b.sp, p], .agg #[.int .i64 xg, .string xk, .int .i64 xf, .int .i64 xt]] W (BdN R0 W)) := Lib.hid (fun p W hp => by rw [hR0]; exact HDW.out b p ⟨xg, xk, xf, xt⟩ W HT.out.ok hp (by show xk.size ≤ 1000; omega))
            have HP2 : Hid (∀ p W, Ans W p b.l → w.grownBy W none → Calls Tryz.prog 10 #[.agg #[.int .i64 b.v, .string b.sp, p], .int .i64 xg] W (BdP A R1 W)) := Lib.hid (fun p W hp hW => by rw [hR1]; exact HPO.out b p xg W HT.out.ok hp hW)
            have HD2 : Hid (∀ p W, Ans W p b.l → Fits p → Calls Tryz.prog 11 #[.agg #[.int .i64 b.v, .string b.sp, p], .int .i64 xg] W (BdN R1 W)) := Lib.hid (fun p W hp hf => by rw [hR1]; exact HDO.out b p xg W HT.out.ok hp hf)
            have HK0 : Hid (OkB R0.2 ∧ R0.1 ≤ 28) := Lib.hid (by rw [hR0]; exact ⟨withA_ok HT.out.ok (by show xk.size ≤ 1000; omega), withA_e⟩)
            have HK1 : Hid (OkB R1.2 ∧ R1.1 ≤ 28) := Lib.hid (by rw [hR1]; exact ⟨without_ok HT.out.ok, without_e⟩)
            clear hR0 hR1
            cases go with
            | true =>
              obtain ⟨w8, hw8⟩ : ∃ w8, w8 = wr.alloc (.cells #[.bool true, .int .i64 xg, .string xk, .int .i64 xf, .int .i64 xt] 35) := ⟨_, rfl⟩
              have HG8 : Hid (wr.grownBy w8 none) := Lib.hid (by rw [hw8]; exact World.grownBy_alloc _ _ _)
              have HX8 : Hid (w8.heap[wr.heap.size]? = some (.cells #[.bool true, .int .i64 xg, .string xk, .int .i64 xf, .int .i64 xt] 35 (0, 0))) := Lib.hid (by rw [hw8]; exact alloc_at _ _)
              have HE8 := Lib.hid hw8
              clear hw8
              go_wp2_with (first
                | (rw [← HE8.out]; refine wpList_load_row (by rfl) 24 (.tmp 2) (by rfl) w.heap.size (by rfl) 24 #[.int .i64 b.v, .string b.sp, .slice pa b.l.length pc] (0, 0) _ (hold_b3 HT.out.h2 HG8.out) Tryz.underlying24 rfl hI ?_)
                | (go_at_call 7; refine (HOf.out b _ w8 HT.out.ok (HT.out.a2.grown HG8.out)).mono ?_; rintro e w9 ⟨r9, rfl, ha, hf, hg⟩; obtain ⟨ra, _, _, rc, rfl, -, -, -⟩ := ha.form; obtain ⟨w10, hw10⟩ : ∃ w10, w10 = w9.alloc (.cells #[.int .i64 b.v, .string b.sp, .slice ra b.l.length rc] 30) := ⟨_, rfl⟩; have hg10 : w9.grownBy w10 none := (by rw [hw10]; exact World.grownBy_alloc _ _ _); have hgt := grown_trans hg hg10; have HG10 : Hid (wr.grownBy w10 none) := Lib.hid (grown_trans HG8.out hgt); have HW10 : Hid (w10.heap[w9.heap.size]? = some (.cells #[.int .i64 b.v, .string b.sp, .slice ra b.l.length rc] 30 (0, 0))) := Lib.hid (by rw [hw10]; exact alloc_at _ _); have HAw10 := Lib.hid (ha.grown hg10); have HX10 := Lib.hid (hold_b3 HX8.out hgt); have y1 := cell_blk HX10.out 1 rfl; have y2 := cell_blk HX10.out 2 rfl; have y3 := cell_blk HX10.out 3 rfl; have y4 := cell_blk HX10.out 4 rfl; have HE10 := Lib.hid hw10; have HS9 : Hid (wr.heap.size < w9.heap.size) := Lib.hid (Nat.lt_of_lt_of_le (blk_lt HX8.out) hg.size); clear ha hf hg hw10 hg10 hgt)
                | (rw [← HE10.out]; refine wpList_load_row (by rfl) 24 (.tmp 2) (by rfl) w.heap.size (by rfl) 24 #[.int .i64 b.v, .string b.sp, .slice pa b.l.length pc] (0, 0) _ (hold_b3 HT.out.h2 HG10.out) Tryz.underlying24 rfl hI ?_)
                | (go_at_call 8; refine (HP1.out _ _ (HT.out.a2.grown HG10.out) (grown_trans HT.out.gr HG10.out)).mono ?_; rintro e w11 ⟨n11, rfl, ha, hf, hg⟩; obtain ⟨na, _, _, nc, rfl, -, -, -⟩ := ha.form; obtain ⟨w12, hw12⟩ : ∃ w12, w12 = w11.alloc (.cells #[.int .i64 R0.2.v, .string R0.2.sp, .slice na R0.2.l.length nc] 24) := ⟨_, rfl⟩; have hg12 : w11.grownBy w12 none := (by rw [hw12]; exact World.grownBy_alloc _ _ _); have hgt := grown_trans hg hg12; have HG12 : Hid (wr.grownBy w12 none) := Lib.hid (grown_trans HG10.out hgt); have HN12 : Hid (w12.heap[w11.heap.size]? = some (.cells #[.int .i64 R0.2.v, .string R0.2.sp, .slice na R0.2.l.length nc] 24 (0, 0))) := Lib.hid (by rw [hw12]; exact alloc_at _ _); have HAn12 := Lib.hid (ha.grown hg12); have HX12 := Lib.hid (hold_b3 HX10.out hgt); have HW12 := Lib.hid (hold_b3 HW10.out hgt); have HAw12 := Lib.hid (HAw10.out.grown hgt); have y1 := cell_blk HX12.out 1 rfl; have y2 := cell_blk HX12.out 2 rfl; have y3 := cell_blk HX12.out 3 rfl; have y4 := cell_blk HX12.out 4 rfl; have HE12 := Lib.hid hw12; have HS11 : Hid (w9.heap.size < w11.heap.size) := Lib.hid (Nat.lt_of_lt_of_le (blk_lt HW10.out) hg.size); clear ha hf hg hw12 hg12 hgt)
                | (rw [← HE12.out]; refine wpList_load_row (by rfl) 30 (.tmp 5) (by rfl) w4.heap.size (by rfl) 30 #[.int .i64 b.v, .string b.sp, .slice qa b.l.length qc] (0, 0) _ (hold_b3 HT.out.h5 HG12.out) Tryz.underlying30 rfl hJ ?_)
                | (go_at_call 9; refine (HD1.out _ _ (HT.out.a5.grown HG12.out)).mono ?_; rintro e w13 ⟨n13, rfl, ha, hf, hg⟩; obtain ⟨ma, _, _, mc, rfl, -, -, -⟩ := ha.form; obtain ⟨w14, hw14⟩ : ∃ w14, w14 = w13.alloc (.cells #[.int .i64 R0.2.v, .string R0.2.sp, .slice ma R0.2.l.length mc] 30) := ⟨_, rfl⟩; have hg14 : w13.grownBy w14 none := (by rw [hw14]; exact World.grownBy_alloc _ _ _); have hgt := grown_trans hg hg14; have HG14 : Hid (wr.grownBy w14 none) := Lib.hid (grown_trans HG12.out hgt); have HM14 : Hid (w14.heap[w13.heap.size]? = some (.cells #[.int .i64 R0.2.v, .string R0.2.sp, .slice ma R0.2.l.length mc] 30 (0, 0))) := Lib.hid (by rw [hw14]; exact alloc_at _ _); have HAm14 := Lib.hid (ha.grown hg14); have HFm14 := Lib.hid hf; have HX14 := Lib.hid (hold_b3 HX12.out hgt); have HW14 := Lib.hid (hold_b3 HW12.out hgt); have HAw14 := Lib.hid (HAw12.out.grown hgt); have HN14 := Lib.hid (hold_b3 HN12.out hgt); have HAn14 := Lib.hid (HAn12.out.grown hgt); have y1 := cell_blk HX14.out 1 rfl; have y0 := cell_blk HX14.out 0 rfl; rw [hw14] at y0; have HE14 := Lib.hid hw14; have HS13 : Hid (w11.heap.size < w13.heap.size) := Lib.hid (Nat.lt_of_lt_of_le (blk_lt HN12.out) hg.size); clear ha hf hg hw14 hg14 hgt)
                | (rw [← HE14.out]; refine wpList_load_row (by rfl) 24 (.tmp 2) (by rfl) w.heap.size (by rfl) 24 #[.int .i64 b.v, .string b.sp, .slice pa b.l.length pc] (0, 0) _ (hold_b3 HT.out.h2 HG14.out) Tryz.underlying24 rfl hI ?_)
                | (go_at_call 10; refine (HP2.out _ _ (HT.out.a2.grown HG14.out) (grown_trans HT.out.gr HG14.out)).mono ?_; rintro e w15 ⟨n15, rfl, ha, hf, hg⟩; obtain ⟨oa, _, _, oc, rfl, -, -, -⟩ := ha.form; have HN15 := Lib.hid (hold_b3 HN14.out hg); have u0 := free_blk HN15.out 0; have u1 := free_blk HN15.out 1; have u2 := free_blk HN15.out 2; have v0 := cell_blk HN15.out 0 rfl; have v1 := cell_blk HN15.out 1 rfl; have v2 := cell_blk HN15.out 2 rfl; obtain ⟨w16, hw16⟩ : ∃ w16, w16 = ((w15.setCell ⟨w11.heap.size, 0, none⟩ (.int .i64 R1.2.v)).setCell ⟨w11.heap.size, 1, none⟩ (.string R1.2.sp)).setCell ⟨w11.heap.size, 2, none⟩ (.slice oa R1.2.l.length oc) := ⟨_, rfl⟩; have HN16 : Hid (w16.heap[w11.heap.size]? = some (.cells #[.int .i64 R1.2.v, .string R1.2.sp, .slice oa R1.2.l.length oc] 24 (0, 0))) := Lib.hid (by rw [hw16]; exact set3 HN15.out); have HAn16 : Hid (Ans w16 (.slice oa R1.2.l.length oc) R1.2.l) := Lib.hid (by rw [hw16]; exact ha.set3 HN15.out); have HK16 : Hid (∀ k o, k ≠ w11.heap.size → w14.heap[k]? = some o → w16.heap[k]? = some o) := Lib.hid (fun k o hk h => by rw [hw16]; exact set3_far (hold_b3 h hg) hk); have hlo : wr.heap.size ≤ w11.heap.size := (by have := HS9.out; have := HS11.out; omega); have HG16 : Hid (wr.grownBy w16 none) := Lib.hid (by rw [hw16]; exact grown_set (grown_set (grown_set (grown_trans HG14.out hg) (.inl hlo) _) (.inl hlo) _) (.inl hlo) _); have HX16 := Lib.hid (HK16.out _ _ (by have := HS9.out; have := HS11.out; omega) HX14.out); have HW16 := Lib.hid (HK16.out _ _ (by have := HS11.out; omega) HW14.out); have HM16 := Lib.hid (HK16.out _ _ (by have := HS13.out; omega) HM14.out); have HAw16 : Hid (Ans w16 (.slice ra b.l.length rc) b.l) := Lib.hid (by rw [hw16]; exact (HAw14.out.grown hg).set3 HN15.out); have y1 := cell_blk HX16.out 1 rfl; have HE16 := Lib.hid hw16; clear ha hf hg hw16 hlo)
                | (rw [← HE16.out]; refine wpList_load_row (by rfl) 30 (.tmp 5) (by rfl) w4.heap.size (by rfl) 30 #[.int .i64 b.v, .string b.sp, .slice qa b.l.length qc] (0, 0) _ (hold_b3 HT.out.h5 HG16.out) Tryz.underlying30 rfl hJ ?_)
                | (go_at_call 11; refine (HD2.out _ _ (HT.out.a5.grown HG16.out) HT.out.f5).mono ?_; rintro e w17 ⟨n17, rfl, ha, hf, hg⟩; obtain ⟨ka, _, _, kc, rfl, -, -, -⟩ := ha.form; have HM17 := Lib.hid (hold_b3 HM16.out hg); have u0 := free_blk HM17.out 0; have u1 := free_blk HM17.out 1; have u2 := free_blk HM17.out 2; have v0 := cell_blk HM17.out 0 rfl; have v1 := cell_blk HM17.out 1 rfl; have v2 := cell_blk HM17.out 2 rfl; obtain ⟨w18, hw18⟩ : ∃ w18, w18 = ((w17.setCell ⟨w13.heap.size, 0, none⟩ (.int .i64 R1.2.v)).setCell ⟨w13.heap.size, 1, none⟩ (.string R1.2.sp)).setCell ⟨w13.heap.size, 2, none⟩ (.slice ka R1.2.l.length kc) := ⟨_, rfl⟩; have HM18 : Hid (w18.heap[w13.heap.size]? = some (.cells #[.int .i64 R1.2.v, .string R1.2.sp, .slice ka R1.2.l.length kc] 30 (0, 0))) := Lib.hid (by rw [hw18]; exact set3 HM17.out); have HAm18 : Hid (Ans w18 (.slice ka R1.2.l.length kc) R1.2.l) := Lib.hid (by rw [hw18]; exact ha.set3 HM17.out); have HFm18 := Lib.hid hf; have HK18 : Hid (∀ k o, k ≠ w13.heap.size → w16.heap[k]? = some o → w18.heap[k]? = some o) := Lib.hid (fun k o hk h => by rw [hw18]; exact set3_far (hold_b3 h hg) hk); have hlo : wr.heap.size ≤ w13.heap.size := (by have := HS9.out; have := HS11.out; have := HS13.out; omega); have HG18 : Hid (wr.grownBy w18 none) := Lib.hid (by rw [hw18]; exact grown_set (grown_set (grown_set (grown_trans HG16.out hg) (.inl hlo) _) (.inl hlo) _) (.inl hlo) _); have HX18 := Lib.hid (HK18.out _ _ (by have := HS9.out; have := HS11.out; have := HS13.out; omega) HX16.out); have HW18 := Lib.hid (HK18.out _ _ (by have := HS11.out; have := HS13.out; omega) HW16.out); have HN18 := Lib.hid (HK18.out _ _ (by have := HS13.out; omega) HN16.out); have HAw18 : Hid (Ans w18 (.slice ra b.l.length rc) b.l) := Lib.hid (by rw [hw18]; exact (HAw16.out.grown hg).set3 HM17.out); have HAn18 : Hid (Ans w18 (.slice oa R1.2.l.length oc) R1.2.l) := Lib.hid (by rw [hw18]; exact (HAn16.out.grown hg).set3 HM17.out); have HE18 := Lib.hid hw18; clear ha hf hg hw18 hlo))
              rw [← HE18.out]
              have HGw := Lib.hid (fun W (hW : w18.grownBy W none) => grown_trans HT.out.gr (grown_trans HG18.out hW))
              refine bs_region17 _ w.heap.size w9.heap.size w11.heap.size w13.heap.size (errOf A R1.1) ((R1.1 : Nat) : Int) R1.2 b #[.int .i64 R1.2.v, .string R1.2.sp, .slice oa R1.2.l.length oc] #[.int .i64 R1.2.v, .string R1.2.sp, .slice ka R1.2.l.length kc] #[.int .i64 b.v, .string b.sp, .slice pa b.l.length pc] #[.int .i64 b.v, .string b.sp, .slice ra b.l.length rc] w18 _ _ rfl rfl rfl rfl rfl rfl rfl (fun W hW => (HNm.out R1.1 HK1.out.2 W (HGw.out W hW)).mono (fun e w' h => ⟨_, h.1, h.2, rfl⟩)) (fun W hW => (HOf.out R1.2 _ W HK1.out.1 (HAn18.out.grown hW)).mono (fun e w' h => by obtain ⟨p, he, ha, hf, hg⟩ := h; exact ⟨_, he, hg, p, rfl, ha⟩)) (fun W u hW hu => by obtain ⟨q, rfl, hq⟩ := hu; exact (HSm.out R1.2 q _ W HK1.out.1 hq (HAm18.out.grown hW)).mono (fun e w' h => ⟨_, h.1, h.2, rfl⟩)) (fun W hW => (HOf.out b _ W HT.out.ok (HT.out.a2.grown (grown_trans HG18.out hW))).mono (fun e w' h => by obtain ⟨p, he, ha, hf, hg⟩ := h; exact ⟨_, he, hg, p, rfl, ha⟩)) (fun W u hW hu => by obtain ⟨q, rfl, hq⟩ := hu; exact (HSm.out b q _ W HT.out.ok hq (HAw18.out.grown hW)).mono (fun e w' h => ⟨_, h.1, h.2, rfl⟩)) (fun W hW => hold_b3 HN18.out hW) (fun W hW => hold_b3 HM18.out hW) (fun W hW => hold_b3 HT.out.h2 (grown_trans HG18.out hW)) (fun W hW => hold_b3 HW18.out hW) hI hJ hI hJ (grown_drewN (grown_refl _ _) 1) (fun us w19 hg19 => ?_)
              simp only [fill_cons, fill_nil, Act.put, List.setIfInBounds_toArray, List.set_cons_succ, List.set_cons_zero]
              have HG19 : Hid (wr.grownBy w19 none) := Lib.hid (grown_trans HG18.out hg19)
              have HX19 := Lib.hid (hold_b3 HX18.out hg19)
              have HN19 := Lib.hid (hold_b3 HN18.out hg19)
              have HM19 := Lib.hid (hold_b3 HM18.out hg19)
              have HAn19 := Lib.hid (HAn18.out.grown hg19)
              have HAm19 := Lib.hid (HAm18.out.grown hg19)
              have HFm19 := HFm18
              have HT19 := Lib.hid (HT.out.grown HG19.out)
              clear hg19
              try clear y0 y1 y2 y3 y4
              by_cases hz : R1.1 = 0
              · have hz1 : (((R1.1 : Nat) : Int) == 0) = true := by rw [hz]; rfl
                have hz2 : ((R1.1 : Nat) : Int) = 0 := by rw [hz]; rfl
                have m2 := HT19.out.h2
                have m5 := HT19.out.h5
                have u0 := free_blk m2 0; have v0 := cell_blk m2 0 rfl; have u3 := free_blk m5 0; have v3 := cell_blk m5 0 rfl
                have u1 := free_blk m2 1; have v1 := cell_blk m2 1 rfl; have u4 := free_blk m5 1; have v4 := cell_blk m5 1 rfl
                have u2 := free_blk m2 2; have v2 := cell_blk m2 2 rfl; have u5 := free_blk m5 2; have v5 := cell_blk m5 2 rfl
                have hlt : w.heap.size < w4.heap.size := blk_lt HB4.out
                have hlt2 : w4.heap.size < wr.heap.size := blk_lt HT.out.h5
                have hne : w.heap.size ≠ w4.heap.size := by omega
                have hne2 : w4.heap.size ≠ w.heap.size := by omega
                have HLt := Lib.hid (And.intro hlt hlt2)
                have HLs : Hid (wr.heap.size < w9.heap.size ∧ w9.heap.size < w11.heap.size ∧ w11.heap.size < w13.heap.size) := Lib.hid ⟨HS9.out, HS11.out, HS13.out⟩
                have HS : Hid (∀ W : World, W.heap[w11.heap.size]? = some (.cells #[.int .i64 R1.2.v, .string R1.2.sp, .slice oa R1.2.l.length oc] 24 (0, 0)) → W.heap[w13.heap.size]? = some (.cells #[.int .i64 R1.2.v, .string R1.2.sp, .slice ka R1.2.l.length kc] 30 (0, 0)) → W.cell? ⟨w11.heap.size, 0, none⟩ = some (.int .i64 R1.2.v) ∧ W.cell? ⟨w11.heap.size, 1, none⟩ = some (.string R1.2.sp) ∧ W.cell? ⟨w11.heap.size, 2, none⟩ = some (.slice oa R1.2.l.length oc) ∧ W.cell? ⟨w13.heap.size, 0, none⟩ = some (.int .i64 R1.2.v) ∧ W.cell? ⟨w13.heap.size, 1, none⟩ = some (.string R1.2.sp) ∧ W.cell? ⟨w13.heap.size, 2, none⟩ = some (.slice ka R1.2.l.length kc)) := Lib.hid (fun W k1 k2 => ⟨cell_blk k1 0 rfl, cell_blk k1 1 rfl, cell_blk k1 2 rfl, cell_blk k2 0 rfl, cell_blk k2 1 rfl, cell_blk k2 2 rfl⟩)
                clear hlt hlt2 m2 m5
                go_wp2
                have c0 := cell_blk HN19.out 0 rfl; have c3 := cell_blk HM19.out 0 rfl
                have c1 := cell_blk HN19.out 1 rfl; have c4 := cell_blk HM19.out 1 rfl
                have c2 := cell_blk HN19.out 2 rfl; have c5 := cell_blk HM19.out 2 rfl
                have f1 : w11.heap.size ≠ w.heap.size := by have := HLt.out; have := HLs.out; omega
                have f2 : w13.heap.size ≠ w.heap.size := by have := HLt.out; have := HLs.out; omega
                have f3 : w11.heap.size ≠ w4.heap.size := by have := HLt.out; have := HLs.out; omega
                have f4 : w13.heap.size ≠ w4.heap.size := by have := HLt.out; have := HLs.out; omega
                have f5 := f1.symm; have f6 := f2.symm; have f7 := f3.symm; have f8 := f4.symm
                go_region
                obtain ⟨V1, hV1⟩ : ∃ V1, V1 = ((w19.setCell ⟨w.heap.size, 0, none⟩ (.int .i64 R1.2.v)).setCell ⟨w.heap.size, 1, none⟩ (.string R1.2.sp)).setCell ⟨w.heap.size, 2, none⟩ (.slice oa R1.2.l.length oc) := ⟨_, rfl⟩
                rw [← hV1]
                obtain ⟨V2, hV2⟩ : ∃ V2, V2 = ((V1.setCell ⟨w4.heap.size, 0, none⟩ (.int .i64 R1.2.v)).setCell ⟨w4.heap.size, 1, none⟩ (.string R1.2.sp)).setCell ⟨w4.heap.size, 2, none⟩ (.slice ka R1.2.l.length kc) := ⟨_, rfl⟩
                rw [← hV2]
                have hb0 : w.heap.size ≤ w.heap.size := Nat.le_refl _
                have hb4 : w.heap.size ≤ w4.heap.size := HG4.out.size
                have g1 : w.grownBy V1 none := by rw [hV1]; exact grown_set (grown_set (grown_set HT19.out.gr (.inl hb0) _) (.inl hb0) _) (.inl hb0) _
                have k2 : V1.heap[w.heap.size]? = some (.cells #[.int .i64 R1.2.v, .string R1.2.sp, .slice oa R1.2.l.length oc] 24 (0, 0)) := by rw [hV1]; exact set3 HT19.out.h2
                have k5 : V1.heap[w4.heap.size]? = some (.cells #[.int .i64 b.v, .string b.sp, .slice qa b.l.length qc] 30 (0, 0)) := by rw [hV1]; exact set3_far HT19.out.h5 hne2
                have kn : Ans V1 (.slice oa R1.2.l.length oc) R1.2.l := by rw [hV1]; exact HAn19.out.set3 HT19.out.h2
                have km : Ans V1 (.slice ka R1.2.l.length kc) R1.2.l := by rw [hV1]; exact HAm19.out.set3 HT19.out.h2
                have kx : V1.heap[wr.heap.size]? = some (.cells #[.bool true, .int .i64 xg, .string xk, .int .i64 xf, .int .i64 xt] 35 (0, 0)) := by rw [hV1]; exact set3_far HX19.out (by have := HLt.out; omega)
                have g2 : w.grownBy V2 none := by rw [hV2]; exact grown_set (grown_set (grown_set g1 (.inl hb4) _) (.inl hb4) _) (.inl hb4) _
                have q2 : V2.heap[w.heap.size]? = some (.cells #[.int .i64 R1.2.v, .string R1.2.sp, .slice oa R1.2.l.length oc] 24 (0, 0)) := by rw [hV2]; exact set3_far k2 hne
                have q5 : V2.heap[w4.heap.size]? = some (.cells #[.int .i64 R1.2.v, .string R1.2.sp, .slice ka R1.2.l.length kc] 30 (0, 0)) := by rw [hV2]; exact set3 k5
                have qn : Ans V2 (.slice oa R1.2.l.length oc) R1.2.l := by rw [hV2]; exact kn.set3 k5
                have qm : Ans V2 (.slice ka R1.2.l.length kc) R1.2.l := by rw [hV2]; exact km.set3 k5
                have qx : V2.heap[wr.heap.size]? = some (.cells #[.bool true, .int .i64 xg, .string xk, .int .i64 xf, .int .i64 xt] 35 (0, 0)) := by rw [hV2]; exact set3_far kx (by have := HLt.out; omega)
                have gd : V2.grownBy V2.drew none := grown_drewN (grown_refl _ _) 1
                obtain ⟨w20, hw20⟩ : ∃ w20, w20 = V2.drew := ⟨_, rfl⟩
                rw [← hw20]
                rw [← hw20] at gd
                have HT20 : Hid (StS w w20 w.heap.size w4.heap.size R1.2 (.slice oa R1.2.l.length oc) (.slice ka R1.2.l.length kc)) := Lib.hid (StS.grown ⟨g2, HK1.out.1, q2, qn, q5, qm, HFm19.out⟩ gd)
                have HX20 := Lib.hid (hold_b3 qx gd)
                clear hV1 hV2 g1 k2 k5 kn km kx g2 q2 q5 qn qm qx gd hb0 hb4
                clear hw20 u0 v0 c0 u1 v1 c1 u2 v2 c2 u3 v3 c3 u4 v4 c4 u5 v5 c5 f1 f2 f3 f4 f5 f6 f7 f8 hne hne2
                obtain ⟨yg, yk, yf, yt, fb, hF⟩ : ∃ yg yk yf yt fb, findV R1.2.l xk xg = .tuple #[.agg #[.int .i64 yg, .string yk, .int .i64 yf, .int .i64 yt], .bool fb] := findV_form _ _ _
                have HF1 : Hid (∀ p W, Ans W p R1.2.l → Calls Tryz.prog 14 #[.agg #[.int .i64 R1.2.v, .string R1.2.sp, p], .string xk, .int .i64 xg] W fun e w' => e = .returned (.tuple #[.agg #[.int .i64 yg, .string yk, .int .i64 yf, .int .i64 yt], .bool fb]) ∧ W.grownBy w' none) := Lib.hid (fun p W hp => by rw [← hF]; exact HPF.out R1.2 p xk xg W HT20.out.ok hp)
                have HF2 : Hid (∀ p W, Ans W p R1.2.l → Calls Tryz.prog 15 #[.agg #[.int .i64 R1.2.v, .string R1.2.sp, p], .string xk, .int .i64 xg] W fun e w' => e = .returned (.tuple #[.agg #[.int .i64 yg, .string yk, .int .i64 yf, .int .i64 yt], .bool fb]) ∧ W.grownBy w' none) := Lib.hid (fun p W hp => by rw [← hF]; exact HDF.out R1.2 p xk xg W HT20.out.ok hp)
                clear hF
                have y1 := cell_blk HX20.out 1 rfl
                have y2 := cell_blk HX20.out 2 rfl
                go_wp2_with (first
                  | (refine wpList_load_row (by rfl) 24 (.tmp 2) (by rfl) w.heap.size (by rfl) 24 #[.int .i64 R1.2.v, .string R1.2.sp, .slice oa R1.2.l.length oc] (0, 0) _ (HT20.out.h2) Tryz.underlying24 rfl hI ?_)
                  | (go_at_call 14; refine (HF1.out _ _ HT20.out.a2).mono ?_; rintro e w21 ⟨rfl, hg⟩; obtain ⟨w22, hw22⟩ : ∃ w22, w22 = w21.alloc (.cells #[.int .i64 yg, .string yk, .int .i64 yf, .int .i64 yt] 33) := ⟨_, rfl⟩; have hgt : w20.grownBy w22 none := (by rw [hw22]; exact grown_alloc hg _); have HT22 := Lib.hid (HT20.out.grown hgt); have HX22 := Lib.hid (hold_b3 HX20.out hgt); have HP22 : Hid (w22.heap[w21.heap.size]? = some (.cells #[.int .i64 yg, .string yk, .int .i64 yf, .int .i64 yt] 33 (0, 0))) := Lib.hid (by rw [hw22]; exact alloc_at _ _); have y1 := cell_blk HX22.out 1 rfl; have y2 := cell_blk HX22.out 2 rfl; have HE22 := Lib.hid hw22; clear hg hw22 hgt)
                  | (rw [← HE22.out]; refine wpList_load_row (by rfl) 30 (.tmp 5) (by rfl) w4.heap.size (by rfl) 30 #[.int .i64 R1.2.v, .string R1.2.sp, .slice ka R1.2.l.length kc] (0, 0) _ (HT22.out.h5) Tryz.underlying30 rfl hJ ?_)
                  | (go_at_call 15; refine (HF2.out _ _ HT22.out.a5).mono ?_; rintro e w23 ⟨rfl, hg⟩; obtain ⟨w24, hw24⟩ : ∃ w24, w24 = w23.alloc (.cells #[.int .i64 yg, .string yk, .int .i64 yf, .int .i64 yt] 42) := ⟨_, rfl⟩; have hgt : w22.grownBy w24 none := (by rw [hw24]; exact grown_alloc hg _); have HT24 := Lib.hid (HT22.out.grown hgt); have HP24 := Lib.hid (hold_b3 HP22.out hgt); have HQ24 : Hid (w24.heap[w23.heap.size]? = some (.cells #[.int .i64 yg, .string yk, .int .i64 yf, .int .i64 yt] 42 (0, 0))) := Lib.hid (by rw [hw24]; exact alloc_at _ _); have q0 := cell_blk HP24.out 0 rfl; have q1 := cell_blk HP24.out 1 rfl; have q2 := cell_blk HP24.out 2 rfl; have q3 := cell_blk HP24.out 3 rfl; rw [hw24] at q0 q1 q2 q3; have HE24 := Lib.hid hw24; clear hg hw24 hgt))
                go_roundw
                case rel => exact ⟨j + 1, R1.2, _, _, by omega, by go_num, by rw [← HE24.out]; exact HT24.out⟩
                case measure => simp [intOf] <;> omega
              · have hz1 : (((R1.1 : Nat) : Int) == 0) = false := by rw [beq_eq_false_iff_ne]; omega
                have hz2 : ¬ ((R1.1 : Nat) : Int) = 0 := by omega
                obtain ⟨yg, yk, yf, yt, fb, hF⟩ : ∃ yg yk yf yt fb, findV b.l xk xg = .tuple #[.agg #[.int .i64 yg, .string yk, .int .i64 yf, .int .i64 yt], .bool fb] := findV_form _ _ _
                have HF1 : Hid (∀ p W, Ans W p b.l → Calls Tryz.prog 14 #[.agg #[.int .i64 b.v, .string b.sp, p], .string xk, .int .i64 xg] W fun e w' => e = .returned (.tuple #[.agg #[.int .i64 yg, .string yk, .int .i64 yf, .int .i64 yt], .bool fb]) ∧ W.grownBy w' none) := Lib.hid (fun p W hp => by rw [← hF]; exact HPF.out b p xk xg W HT19.out.ok hp)
                have HF2 : Hid (∀ p W, Ans W p b.l → Calls Tryz.prog 15 #[.agg #[.int .i64 b.v, .string b.sp, p], .string xk, .int .i64 xg] W fun e w' => e = .returned (.tuple #[.agg #[.int .i64 yg, .string yk, .int .i64 yf, .int .i64 yt], .bool fb]) ∧ W.grownBy w' none) := Lib.hid (fun p W hp => by rw [← hF]; exact HDF.out b p xk xg W HT19.out.ok hp)
                clear hF
                have y1 := cell_blk HX19.out 1 rfl
                have y2 := cell_blk HX19.out 2 rfl
                go_wp2_with (first
                  | (refine wpList_load_row (by rfl) 24 (.tmp 2) (by rfl) w.heap.size (by rfl) 24 #[.int .i64 b.v, .string b.sp, .slice pa b.l.length pc] (0, 0) _ (HT19.out.h2) Tryz.underlying24 rfl hI ?_)
                  | (go_at_call 14; refine (HF1.out _ _ HT19.out.a2).mono ?_; rintro e w21 ⟨rfl, hg⟩; obtain ⟨w22, hw22⟩ : ∃ w22, w22 = w21.alloc (.cells #[.int .i64 yg, .string yk, .int .i64 yf, .int .i64 yt] 33) := ⟨_, rfl⟩; have hgt : w19.grownBy w22 none := (by rw [hw22]; exact grown_alloc hg _); have HT22 := Lib.hid (HT19.out.grown hgt); have HX22 := Lib.hid (hold_b3 HX19.out hgt); have HP22 : Hid (w22.heap[w21.heap.size]? = some (.cells #[.int .i64 yg, .string yk, .int .i64 yf, .int .i64 yt] 33 (0, 0))) := Lib.hid (by rw [hw22]; exact alloc_at _ _); have y1 := cell_blk HX22.out 1 rfl; have y2 := cell_blk HX22.out 2 rfl; have HE22 := Lib.hid hw22; clear hg hw22 hgt)
                  | (rw [← HE22.out]; refine wpList_load_row (by rfl) 30 (.tmp 5) (by rfl) w4.heap.size (by rfl) 30 #[.int .i64 b.v, .string b.sp, .slice qa b.l.length qc] (0, 0) _ (HT22.out.h5) Tryz.underlying30 rfl hJ ?_)
                  | (go_at_call 15; refine (HF2.out _ _ HT22.out.a5).mono ?_; rintro e w23 ⟨rfl, hg⟩; obtain ⟨w24, hw24⟩ : ∃ w24, w24 = w23.alloc (.cells #[.int .i64 yg, .string yk, .int .i64 yf, .int .i64 yt] 42) := ⟨_, rfl⟩; have hgt : w22.grownBy w24 none := (by rw [hw24]; exact grown_alloc hg _); have HT24 := Lib.hid (HT22.out.grown hgt); have HP24 := Lib.hid (hold_b3 HP22.out hgt); have HQ24 : Hid (w24.heap[w23.heap.size]? = some (.cells #[.int .i64 yg, .string yk, .int .i64 yf, .int .i64 yt] 42 (0, 0))) := Lib.hid (by rw [hw24]; exact alloc_at _ _); have q0 := cell_blk HP24.out 0 rfl; have q1 := cell_blk HP24.out 1 rfl; have q2 := cell_blk HP24.out 2 rfl; have q3 := cell_blk HP24.out 3 rfl; rw [hw24] at q0 q1 q2 q3; have HE24 := Lib.hid hw24; clear hg hw24 hgt))
                go_roundw
                case rel => exact ⟨j + 1, b, _, _, by omega, by go_num, by rw [← HE24.out]; exact HT24.out⟩
                case measure => simp [intOf] <;> omega
            | false =>
              obtain ⟨w8, hw8⟩ : ∃ w8, w8 = wr.alloc (.cells #[.bool false, .int .i64 xg, .string xk, .int .i64 xf, .int .i64 xt] 35) := ⟨_, rfl⟩
              have HG8 : Hid (wr.grownBy w8 none) := Lib.hid (by rw [hw8]; exact World.grownBy_alloc _ _ _)
              have HX8 : Hid (w8.heap[wr.heap.size]? = some (.cells #[.bool false, .int .i64 xg, .string xk, .int .i64 xf, .int .i64 xt] 35 (0, 0))) := Lib.hid (by rw [hw8]; exact alloc_at _ _)
              have HE8 := Lib.hid hw8
              clear hw8
              go_wp2_with (first
                | (rw [← HE8.out]; refine wpList_load_row (by rfl) 24 (.tmp 2) (by rfl) w.heap.size (by rfl) 24 #[.int .i64 b.v, .string b.sp, .slice pa b.l.length pc] (0, 0) _ (hold_b3 HT.out.h2 HG8.out) Tryz.underlying24 rfl hI ?_)
                | (go_at_call 7; refine (HOf.out b _ w8 HT.out.ok (HT.out.a2.grown HG8.out)).mono ?_; rintro e w9 ⟨r9, rfl, ha, hf, hg⟩; obtain ⟨ra, _, _, rc, rfl, -, -, -⟩ := ha.form; obtain ⟨w10, hw10⟩ : ∃ w10, w10 = w9.alloc (.cells #[.int .i64 b.v, .string b.sp, .slice ra b.l.length rc] 30) := ⟨_, rfl⟩; have hg10 : w9.grownBy w10 none := (by rw [hw10]; exact World.grownBy_alloc _ _ _); have hgt := grown_trans hg hg10; have HG10 : Hid (wr.grownBy w10 none) := Lib.hid (grown_trans HG8.out hgt); have HW10 : Hid (w10.heap[w9.heap.size]? = some (.cells #[.int .i64 b.v, .string b.sp, .slice ra b.l.length rc] 30 (0, 0))) := Lib.hid (by rw [hw10]; exact alloc_at _ _); have HAw10 := Lib.hid (ha.grown hg10); have HX10 := Lib.hid (hold_b3 HX8.out hgt); have y1 := cell_blk HX10.out 1 rfl; have y2 := cell_blk HX10.out 2 rfl; have y3 := cell_blk HX10.out 3 rfl; have y4 := cell_blk HX10.out 4 rfl; have HE10 := Lib.hid hw10; have HS9 : Hid (wr.heap.size < w9.heap.size) := Lib.hid (Nat.lt_of_lt_of_le (blk_lt HX8.out) hg.size); clear ha hf hg hw10 hg10 hgt)
                | (rw [← HE10.out]; refine wpList_load_row (by rfl) 24 (.tmp 2) (by rfl) w.heap.size (by rfl) 24 #[.int .i64 b.v, .string b.sp, .slice pa b.l.length pc] (0, 0) _ (hold_b3 HT.out.h2 HG10.out) Tryz.underlying24 rfl hI ?_)
                | (go_at_call 8; refine (HP1.out _ _ (HT.out.a2.grown HG10.out) (grown_trans HT.out.gr HG10.out)).mono ?_; rintro e w11 ⟨n11, rfl, ha, hf, hg⟩; obtain ⟨na, _, _, nc, rfl, -, -, -⟩ := ha.form; obtain ⟨w12, hw12⟩ : ∃ w12, w12 = w11.alloc (.cells #[.int .i64 R0.2.v, .string R0.2.sp, .slice na R0.2.l.length nc] 24) := ⟨_, rfl⟩; have hg12 : w11.grownBy w12 none := (by rw [hw12]; exact World.grownBy_alloc _ _ _); have hgt := grown_trans hg hg12; have HG12 : Hid (wr.grownBy w12 none) := Lib.hid (grown_trans HG10.out hgt); have HN12 : Hid (w12.heap[w11.heap.size]? = some (.cells #[.int .i64 R0.2.v, .string R0.2.sp, .slice na R0.2.l.length nc] 24 (0, 0))) := Lib.hid (by rw [hw12]; exact alloc_at _ _); have HAn12 := Lib.hid (ha.grown hg12); have HX12 := Lib.hid (hold_b3 HX10.out hgt); have HW12 := Lib.hid (hold_b3 HW10.out hgt); have HAw12 := Lib.hid (HAw10.out.grown hgt); have y1 := cell_blk HX12.out 1 rfl; have y2 := cell_blk HX12.out 2 rfl; have y3 := cell_blk HX12.out 3 rfl; have y4 := cell_blk HX12.out 4 rfl; have HE12 := Lib.hid hw12; have HS11 : Hid (w9.heap.size < w11.heap.size) := Lib.hid (Nat.lt_of_lt_of_le (blk_lt HW10.out) hg.size); clear ha hf hg hw12 hg12 hgt)
                | (rw [← HE12.out]; refine wpList_load_row (by rfl) 30 (.tmp 5) (by rfl) w4.heap.size (by rfl) 30 #[.int .i64 b.v, .string b.sp, .slice qa b.l.length qc] (0, 0) _ (hold_b3 HT.out.h5 HG12.out) Tryz.underlying30 rfl hJ ?_)
                | (go_at_call 9; refine (HD1.out _ _ (HT.out.a5.grown HG12.out)).mono ?_; rintro e w13 ⟨n13, rfl, ha, hf, hg⟩; obtain ⟨ma, _, _, mc, rfl, -, -, -⟩ := ha.form; obtain ⟨w14, hw14⟩ : ∃ w14, w14 = w13.alloc (.cells #[.int .i64 R0.2.v, .string R0.2.sp, .slice ma R0.2.l.length mc] 30) := ⟨_, rfl⟩; have hg14 : w13.grownBy w14 none := (by rw [hw14]; exact World.grownBy_alloc _ _ _); have hgt := grown_trans hg hg14; have HG14 : Hid (wr.grownBy w14 none) := Lib.hid (grown_trans HG12.out hgt); have HM14 : Hid (w14.heap[w13.heap.size]? = some (.cells #[.int .i64 R0.2.v, .string R0.2.sp, .slice ma R0.2.l.length mc] 30 (0, 0))) := Lib.hid (by rw [hw14]; exact alloc_at _ _); have HAm14 := Lib.hid (ha.grown hg14); have HFm14 := Lib.hid hf; have HX14 := Lib.hid (hold_b3 HX12.out hgt); have HW14 := Lib.hid (hold_b3 HW12.out hgt); have HAw14 := Lib.hid (HAw12.out.grown hgt); have HN14 := Lib.hid (hold_b3 HN12.out hgt); have HAn14 := Lib.hid (HAn12.out.grown hgt); have y1 := cell_blk HX14.out 1 rfl; have y0 := cell_blk HX14.out 0 rfl; rw [hw14] at y0; have HE14 := Lib.hid hw14; have HS13 : Hid (w11.heap.size < w13.heap.size) := Lib.hid (Nat.lt_of_lt_of_le (blk_lt HN12.out) hg.size); clear ha hf hg hw14 hg14 hgt))
              rw [← HE14.out]
              have HGw := Lib.hid (fun W (hW : w14.grownBy W none) => grown_trans HT.out.gr (grown_trans HG14.out hW))
              refine bs_region17 _ w.heap.size w9.heap.size w11.heap.size w13.heap.size (errOf A R0.1) ((R0.1 : Nat) : Int) R0.2 b #[.int .i64 R0.2.v, .string R0.2.sp, .slice na R0.2.l.length nc] #[.int .i64 R0.2.v, .string R0.2.sp, .slice ma R0.2.l.length mc] #[.int .i64 b.v, .string b.sp, .slice pa b.l.length pc] #[.int .i64 b.v, .string b.sp, .slice ra b.l.length rc] w14 _ _ rfl rfl rfl rfl rfl rfl rfl (fun W hW => (HNm.out R0.1 HK0.out.2 W (HGw.out W hW)).mono (fun e w' h => ⟨_, h.1, h.2, rfl⟩)) (fun W hW => (HOf.out R0.2 _ W HK0.out.1 (HAn14.out.grown hW)).mono (fun e w' h => by obtain ⟨p, he, ha, hf, hg⟩ := h; exact ⟨_, he, hg, p, rfl, ha⟩)) (fun W u hW hu => by obtain ⟨q, rfl, hq⟩ := hu; exact (HSm.out R0.2 q _ W HK0.out.1 hq (HAm14.out.grown hW)).mono (fun e w' h => ⟨_, h.1, h.2, rfl⟩)) (fun W hW => (HOf.out b _ W HT.out.ok (HT.out.a2.grown (grown_trans HG14.out hW))).mono (fun e w' h => by obtain ⟨p, he, ha, hf, hg⟩ := h; exact ⟨_, he, hg, p, rfl, ha⟩)) (fun W u hW hu => by obtain ⟨q, rfl, hq⟩ := hu; exact (HSm.out b q _ W HT.out.ok hq (HAw14.out.grown hW)).mono (fun e w' h => ⟨_, h.1, h.2, rfl⟩)) (fun W hW => hold_b3 HN14.out hW) (fun W hW => hold_b3 HM14.out hW) (fun W hW => hold_b3 HT.out.h2 (grown_trans HG14.out hW)) (fun W hW => hold_b3 HW14.out hW) hI hJ hI hJ (grown_drewN (grown_refl _ _) 1) (fun us w19 hg19 => ?_)
              simp only [fill_cons, fill_nil, Act.put, List.setIfInBounds_toArray, List.set_cons_succ, List.set_cons_zero]
              have HG19 : Hid (wr.grownBy w19 none) := Lib.hid (grown_trans HG14.out hg19)
              have HX19 := Lib.hid (hold_b3 HX14.out hg19)
              have HN19 := Lib.hid (hold_b3 HN14.out hg19)
              have HM19 := Lib.hid (hold_b3 HM14.out hg19)
              have HAn19 := Lib.hid (HAn14.out.grown hg19)
              have HAm19 := Lib.hid (HAm14.out.grown hg19)
              have HFm19 := HFm14
              have HT19 := Lib.hid (HT.out.grown HG19.out)
              clear hg19
              try clear y0 y1 y2 y3 y4
              by_cases hz : R0.1 = 0
              · have hz1 : (((R0.1 : Nat) : Int) == 0) = true := by rw [hz]; rfl
                have hz2 : ((R0.1 : Nat) : Int) = 0 := by rw [hz]; rfl
                have m2 := HT19.out.h2
                have m5 := HT19.out.h5
                have u0 := free_blk m2 0; have v0 := cell_blk m2 0 rfl; have u3 := free_blk m5 0; have v3 := cell_blk m5 0 rfl
                have u1 := free_blk m2 1; have v1 := cell_blk m2 1 rfl; have u4 := free_blk m5 1; have v4 := cell_blk m5 1 rfl
                have u2 := free_blk m2 2; have v2 := cell_blk m2 2 rfl; have u5 := free_blk m5 2; have v5 := cell_blk m5 2 rfl
                have hlt : w.heap.size < w4.heap.size := blk_lt HB4.out
                have hlt2 : w4.heap.size < wr.heap.size := blk_lt HT.out.h5
                have hne : w.heap.size ≠ w4.heap.size := by omega
                have hne2 : w4.heap.size ≠ w.heap.size := by omega
                have HLt := Lib.hid (And.intro hlt hlt2)
                have HLs : Hid (wr.heap.size < w9.heap.size ∧ w9.heap.size < w11.heap.size ∧ w11.heap.size < w13.heap.size) := Lib.hid ⟨HS9.out, HS11.out, HS13.out⟩
                have HS : Hid (∀ W : World, W.heap[w11.heap.size]? = some (.cells #[.int .i64 R0.2.v, .string R0.2.sp, .slice na R0.2.l.length nc] 24 (0, 0)) → W.heap[w13.heap.size]? = some (.cells #[.int .i64 R0.2.v, .string R0.2.sp, .slice ma R0.2.l.length mc] 30 (0, 0)) → W.cell? ⟨w11.heap.size, 0, none⟩ = some (.int .i64 R0.2.v) ∧ W.cell? ⟨w11.heap.size, 1, none⟩ = some (.string R0.2.sp) ∧ W.cell? ⟨w11.heap.size, 2, none⟩ = some (.slice na R0.2.l.length nc) ∧ W.cell? ⟨w13.heap.size, 0, none⟩ = some (.int .i64 R0.2.v) ∧ W.cell? ⟨w13.heap.size, 1, none⟩ = some (.string R0.2.sp) ∧ W.cell? ⟨w13.heap.size, 2, none⟩ = some (.slice ma R0.2.l.length mc)) := Lib.hid (fun W k1 k2 => ⟨cell_blk k1 0 rfl, cell_blk k1 1 rfl, cell_blk k1 2 rfl, cell_blk k2 0 rfl, cell_blk k2 1 rfl, cell_blk k2 2 rfl⟩)
                clear hlt hlt2 m2 m5
                go_wp2
                have c0 := cell_blk HN19.out 0 rfl; have c3 := cell_blk HM19.out 0 rfl
                have c1 := cell_blk HN19.out 1 rfl; have c4 := cell_blk HM19.out 1 rfl
                have c2 := cell_blk HN19.out 2 rfl; have c5 := cell_blk HM19.out 2 rfl
                have f1 : w11.heap.size ≠ w.heap.size := by have := HLt.out; have := HLs.out; omega
                have f2 : w13.heap.size ≠ w.heap.size := by have := HLt.out; have := HLs.out; omega
                have f3 : w11.heap.size ≠ w4.heap.size := by have := HLt.out; have := HLs.out; omega
                have f4 : w13.heap.size ≠ w4.heap.size := by have := HLt.out; have := HLs.out; omega
                have f5 := f1.symm; have f6 := f2.symm; have f7 := f3.symm; have f8 := f4.symm
                go_region
                obtain ⟨V1, hV1⟩ : ∃ V1, V1 = ((w19.setCell ⟨w.heap.size, 0, none⟩ (.int .i64 R0.2.v)).setCell ⟨w.heap.size, 1, none⟩ (.string R0.2.sp)).setCell ⟨w.heap.size, 2, none⟩ (.slice na R0.2.l.length nc) := ⟨_, rfl⟩
                rw [← hV1]
                obtain ⟨V2, hV2⟩ : ∃ V2, V2 = ((V1.setCell ⟨w4.heap.size, 0, none⟩ (.int .i64 R0.2.v)).setCell ⟨w4.heap.size, 1, none⟩ (.string R0.2.sp)).setCell ⟨w4.heap.size, 2, none⟩ (.slice ma R0.2.l.length mc) := ⟨_, rfl⟩
                rw [← hV2]
                have hb0 : w.heap.size ≤ w.heap.size := Nat.le_refl _
                have hb4 : w.heap.size ≤ w4.heap.size := HG4.out.size
                have g1 : w.grownBy V1 none := by rw [hV1]; exact grown_set (grown_set (grown_set HT19.out.gr (.inl hb0) _) (.inl hb0) _) (.inl hb0) _
                have k2 : V1.heap[w.heap.size]? = some (.cells #[.int .i64 R0.2.v, .string R0.2.sp, .slice na R0.2.l.length nc] 24 (0, 0)) := by rw [hV1]; exact set3 HT19.out.h2
                have k5 : V1.heap[w4.heap.size]? = some (.cells #[.int .i64 b.v, .string b.sp, .slice qa b.l.length qc] 30 (0, 0)) := by rw [hV1]; exact set3_far HT19.out.h5 hne2
                have kn : Ans V1 (.slice na R0.2.l.length nc) R0.2.l := by rw [hV1]; exact HAn19.out.set3 HT19.out.h2
                have km : Ans V1 (.slice ma R0.2.l.length mc) R0.2.l := by rw [hV1]; exact HAm19.out.set3 HT19.out.h2
                have kx : V1.heap[wr.heap.size]? = some (.cells #[.bool false, .int .i64 xg, .string xk, .int .i64 xf, .int .i64 xt] 35 (0, 0)) := by rw [hV1]; exact set3_far HX19.out (by have := HLt.out; omega)
                have g2 : w.grownBy V2 none := by rw [hV2]; exact grown_set (grown_set (grown_set g1 (.inl hb4) _) (.inl hb4) _) (.inl hb4) _
                have q2 : V2.heap[w.heap.size]? = some (.cells #[.int .i64 R0.2.v, .string R0.2.sp, .slice na R0.2.l.length nc] 24 (0, 0)) := by rw [hV2]; exact set3_far k2 hne
                have q5 : V2.heap[w4.heap.size]? = some (.cells #[.int .i64 R0.2.v, .string R0.2.sp, .slice ma R0.2.l.length mc] 30 (0, 0)) := by rw [hV2]; exact set3 k5
                have qn : Ans V2 (.slice na R0.2.l.length nc) R0.2.l := by rw [hV2]; exact kn.set3 k5
                have qm : Ans V2 (.slice ma R0.2.l.length mc) R0.2.l := by rw [hV2]; exact km.set3 k5
                have qx : V2.heap[wr.heap.size]? = some (.cells #[.bool false, .int .i64 xg, .string xk, .int .i64 xf, .int .i64 xt] 35 (0, 0)) := by rw [hV2]; exact set3_far kx (by have := HLt.out; omega)
                have gd : V2.grownBy V2.drew none := grown_drewN (grown_refl _ _) 1
                obtain ⟨w20, hw20⟩ : ∃ w20, w20 = V2.drew := ⟨_, rfl⟩
                rw [← hw20]
                rw [← hw20] at gd
                have HT20 : Hid (StS w w20 w.heap.size w4.heap.size R0.2 (.slice na R0.2.l.length nc) (.slice ma R0.2.l.length mc)) := Lib.hid (StS.grown ⟨g2, HK0.out.1, q2, qn, q5, qm, HFm19.out⟩ gd)
                have HX20 := Lib.hid (hold_b3 qx gd)
                clear hV1 hV2 g1 k2 k5 kn km kx g2 q2 q5 qn qm qx gd hb0 hb4
                clear hw20 u0 v0 c0 u1 v1 c1 u2 v2 c2 u3 v3 c3 u4 v4 c4 u5 v5 c5 f1 f2 f3 f4 f5 f6 f7 f8 hne hne2
                obtain ⟨yg, yk, yf, yt, fb, hF⟩ : ∃ yg yk yf yt fb, findV R0.2.l xk xg = .tuple #[.agg #[.int .i64 yg, .string yk, .int .i64 yf, .int .i64 yt], .bool fb] := findV_form _ _ _
                have HF1 : Hid (∀ p W, Ans W p R0.2.l → Calls Tryz.prog 14 #[.agg #[.int .i64 R0.2.v, .string R0.2.sp, p], .string xk, .int .i64 xg] W fun e w' => e = .returned (.tuple #[.agg #[.int .i64 yg, .string yk, .int .i64 yf, .int .i64 yt], .bool fb]) ∧ W.grownBy w' none) := Lib.hid (fun p W hp => by rw [← hF]; exact HPF.out R0.2 p xk xg W HT20.out.ok hp)
                have HF2 : Hid (∀ p W, Ans W p R0.2.l → Calls Tryz.prog 15 #[.agg #[.int .i64 R0.2.v, .string R0.2.sp, p], .string xk, .int .i64 xg] W fun e w' => e = .returned (.tuple #[.agg #[.int .i64 yg, .string yk, .int .i64 yf, .int .i64 yt], .bool fb]) ∧ W.grownBy w' none) := Lib.hid (fun p W hp => by rw [← hF]; exact HDF.out R0.2 p xk xg W HT20.out.ok hp)
                clear hF
                have y1 := cell_blk HX20.out 1 rfl
                have y2 := cell_blk HX20.out 2 rfl
                go_wp2_with (first
                  | (refine wpList_load_row (by rfl) 24 (.tmp 2) (by rfl) w.heap.size (by rfl) 24 #[.int .i64 R0.2.v, .string R0.2.sp, .slice na R0.2.l.length nc] (0, 0) _ (HT20.out.h2) Tryz.underlying24 rfl hI ?_)
                  | (go_at_call 14; refine (HF1.out _ _ HT20.out.a2).mono ?_; rintro e w21 ⟨rfl, hg⟩; obtain ⟨w22, hw22⟩ : ∃ w22, w22 = w21.alloc (.cells #[.int .i64 yg, .string yk, .int .i64 yf, .int .i64 yt] 33) := ⟨_, rfl⟩; have hgt : w20.grownBy w22 none := (by rw [hw22]; exact grown_alloc hg _); have HT22 := Lib.hid (HT20.out.grown hgt); have HX22 := Lib.hid (hold_b3 HX20.out hgt); have HP22 : Hid (w22.heap[w21.heap.size]? = some (.cells #[.int .i64 yg, .string yk, .int .i64 yf, .int .i64 yt] 33 (0, 0))) := Lib.hid (by rw [hw22]; exact alloc_at _ _); have y1 := cell_blk HX22.out 1 rfl; have y2 := cell_blk HX22.out 2 rfl; have HE22 := Lib.hid hw22; clear hg hw22 hgt)
                  | (rw [← HE22.out]; refine wpList_load_row (by rfl) 30 (.tmp 5) (by rfl) w4.heap.size (by rfl) 30 #[.int .i64 R0.2.v, .string R0.2.sp, .slice ma R0.2.l.length mc] (0, 0) _ (HT22.out.h5) Tryz.underlying30 rfl hJ ?_)
                  | (go_at_call 15; refine (HF2.out _ _ HT22.out.a5).mono ?_; rintro e w23 ⟨rfl, hg⟩; obtain ⟨w24, hw24⟩ : ∃ w24, w24 = w23.alloc (.cells #[.int .i64 yg, .string yk, .int .i64 yf, .int .i64 yt] 42) := ⟨_, rfl⟩; have hgt : w22.grownBy w24 none := (by rw [hw24]; exact grown_alloc hg _); have HT24 := Lib.hid (HT22.out.grown hgt); have HP24 := Lib.hid (hold_b3 HP22.out hgt); have HQ24 : Hid (w24.heap[w23.heap.size]? = some (.cells #[.int .i64 yg, .string yk, .int .i64 yf, .int .i64 yt] 42 (0, 0))) := Lib.hid (by rw [hw24]; exact alloc_at _ _); have q0 := cell_blk HP24.out 0 rfl; have q1 := cell_blk HP24.out 1 rfl; have q2 := cell_blk HP24.out 2 rfl; have q3 := cell_blk HP24.out 3 rfl; rw [hw24] at q0 q1 q2 q3; have HE24 := Lib.hid hw24; clear hg hw24 hgt))
                go_roundw
                case rel => exact ⟨j + 1, R0.2, _, _, by omega, by go_num, by rw [← HE24.out]; exact HT24.out⟩
                case measure => simp [intOf] <;> omega
              · have hz1 : (((R0.1 : Nat) : Int) == 0) = false := by rw [beq_eq_false_iff_ne]; omega
                have hz2 : ¬ ((R0.1 : Nat) : Int) = 0 := by omega
                obtain ⟨yg, yk, yf, yt, fb, hF⟩ : ∃ yg yk yf yt fb, findV b.l xk xg = .tuple #[.agg #[.int .i64 yg, .string yk, .int .i64 yf, .int .i64 yt], .bool fb] := findV_form _ _ _
                have HF1 : Hid (∀ p W, Ans W p b.l → Calls Tryz.prog 14 #[.agg #[.int .i64 b.v, .string b.sp, p], .string xk, .int .i64 xg] W fun e w' => e = .returned (.tuple #[.agg #[.int .i64 yg, .string yk, .int .i64 yf, .int .i64 yt], .bool fb]) ∧ W.grownBy w' none) := Lib.hid (fun p W hp => by rw [← hF]; exact HPF.out b p xk xg W HT19.out.ok hp)
                have HF2 : Hid (∀ p W, Ans W p b.l → Calls Tryz.prog 15 #[.agg #[.int .i64 b.v, .string b.sp, p], .string xk, .int .i64 xg] W fun e w' => e = .returned (.tuple #[.agg #[.int .i64 yg, .string yk, .int .i64 yf, .int .i64 yt], .bool fb]) ∧ W.grownBy w' none) := Lib.hid (fun p W hp => by rw [← hF]; exact HDF.out b p xk xg W HT19.out.ok hp)
                clear hF
                have y1 := cell_blk HX19.out 1 rfl
                have y2 := cell_blk HX19.out 2 rfl
                go_wp2_with (first
                  | (refine wpList_load_row (by rfl) 24 (.tmp 2) (by rfl) w.heap.size (by rfl) 24 #[.int .i64 b.v, .string b.sp, .slice pa b.l.length pc] (0, 0) _ (HT19.out.h2) Tryz.underlying24 rfl hI ?_)
                  | (go_at_call 14; refine (HF1.out _ _ HT19.out.a2).mono ?_; rintro e w21 ⟨rfl, hg⟩; obtain ⟨w22, hw22⟩ : ∃ w22, w22 = w21.alloc (.cells #[.int .i64 yg, .string yk, .int .i64 yf, .int .i64 yt] 33) := ⟨_, rfl⟩; have hgt : w19.grownBy w22 none := (by rw [hw22]; exact grown_alloc hg _); have HT22 := Lib.hid (HT19.out.grown hgt); have HX22 := Lib.hid (hold_b3 HX19.out hgt); have HP22 : Hid (w22.heap[w21.heap.size]? = some (.cells #[.int .i64 yg, .string yk, .int .i64 yf, .int .i64 yt] 33 (0, 0))) := Lib.hid (by rw [hw22]; exact alloc_at _ _); have y1 := cell_blk HX22.out 1 rfl; have y2 := cell_blk HX22.out 2 rfl; have HE22 := Lib.hid hw22; clear hg hw22 hgt)
                  | (rw [← HE22.out]; refine wpList_load_row (by rfl) 30 (.tmp 5) (by rfl) w4.heap.size (by rfl) 30 #[.int .i64 b.v, .string b.sp, .slice qa b.l.length qc] (0, 0) _ (HT22.out.h5) Tryz.underlying30 rfl hJ ?_)
                  | (go_at_call 15; refine (HF2.out _ _ HT22.out.a5).mono ?_; rintro e w23 ⟨rfl, hg⟩; obtain ⟨w24, hw24⟩ : ∃ w24, w24 = w23.alloc (.cells #[.int .i64 yg, .string yk, .int .i64 yf, .int .i64 yt] 42) := ⟨_, rfl⟩; have hgt : w22.grownBy w24 none := (by rw [hw24]; exact grown_alloc hg _); have HT24 := Lib.hid (HT22.out.grown hgt); have HP24 := Lib.hid (hold_b3 HP22.out hgt); have HQ24 : Hid (w24.heap[w23.heap.size]? = some (.cells #[.int .i64 yg, .string yk, .int .i64 yf, .int .i64 yt] 42 (0, 0))) := Lib.hid (by rw [hw24]; exact alloc_at _ _); have q0 := cell_blk HP24.out 0 rfl; have q1 := cell_blk HP24.out 1 rfl; have q2 := cell_blk HP24.out 2 rfl; have q3 := cell_blk HP24.out 3 rfl; rw [hw24] at q0 q1 q2 q3; have HE24 := Lib.hid hw24; clear hg hw24 hgt))
                go_roundw
                case rel => exact ⟨j + 1, b, _, _, by omega, by go_num, by rw [← HE24.out]; exact HT24.out⟩
                case measure => simp [intOf] <;> omega
        · obtain rfl : j = n := by omega
          go_wp2
          go_ret
          exact ⟨rfl, HT.out.gr⟩
end Go.Proofs.YtihioekepflpiaaGreatDoor
