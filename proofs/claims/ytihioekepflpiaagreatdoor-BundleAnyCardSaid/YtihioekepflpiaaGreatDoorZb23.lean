import Derived.Test.YtihioekepflpiaaGreatDoorZb22
import Derived.Deep.RegionLaw
import Derived.Lib.SliceRun
import Derived.Laws.IdiomCopy
set_option linter.unusedVariables false
set_option linter.unusedSimpArgs false
namespace Go.Proofs.YtihioekepflpiaaGreatDoor
open Go.RowKit Bu
section
variable {P : Program}
/-- 'clear' of one element of some cells. -/
theorem run_clearN (w : World) (t e ty : TypeId) (z : Value) (Z : List Value) (ht : P.underlying t = some (.slice e)) (hv : ∀ w, (zeroValue e).run P w = .ok z w) (hz : z.cells = Z.toArray) (h1 : ∀ u ∈ Z, u.oneCell' = true) (b o c : Nat)
    (hc : ∀ j, j < Z.length → (w.cell? ⟨b, o + j, none⟩).isSome = true) (hf : ∀ j, j < Z.length → w.frozen? ⟨b, o + j, none⟩ = false) :
    (Builtin.clear_ #[t] ty #[.slice (some ⟨b, o, none⟩) 1 c]).run P w = .ok (.tuple #[]) (w.setCells b o Z) := by
  have hzc : (Builtin.zeroCells z.cells 1).toList = Z := by
    rw [hz]
    simp [Builtin.zeroCells]
    apply List.ext_getElem
    · simp
    · intro i h1 h2
      have h3 : i % Z.length = i := Nat.mod_eq_of_lt h2
      simp [h3, h2]
  have hst := run_storeCells_cells (P := P) b o Z 0 w (by simpa using hc) (by simpa using hf) h1
  simp only [Nat.add_zero] at hst
  simp [Builtin.clear_, run_underlying ht, hv, hzc, hst]
end
def subP (a : Option Addr) (k c : Nat) : Option Addr := if c = k then a else a.map (·.add (k * 4))
theorem elemPn : Tryz.prog.underlying 22 = some (.slice (Tryz.prog.elem 22)) := by kernel_rfl
theorem sizePn (w : World) : (sizeOf (Tryz.prog.elem 22)).run Tryz.prog w = .ok 4 w := by kernel_rfl
@[go_sem high] theorem run_fromPn (w : World) (a : Option Addr) (n c : Nat) (i : Int) (h0 : 0 ≤ i) (h1 : i ≤ n) :
    (Instr.slice 22 (.slice a n c) (some (.int .i64 i)) none none).run Tryz.prog w = .ok (.slice (subP a i.toNat c) (n - i.toNat) (c - i.toNat)) w := by
  rw [run_slice_l w 22 a n c elemPn .i64 i h0 h1, sizePn]
  simp only [Result.andThen, sliced, subP]
@[go_sem high] theorem run_toPn (w : World) (a : Option Addr) (n c : Nat) (i : Int) (h0 : 0 ≤ i) (h1 : i ≤ c) :
    (Instr.slice 22 (.slice a n c) none (some (.int .i64 i)) none).run Tryz.prog w = .ok (.slice a i.toNat c) w := by
  have hadd : ∀ x : Addr, x.add 0 = x := fun x => by unfold Addr.add; split <;> simp_all
  rw [run_slice_h w 22 a n c elemPn .i64 i h0 h1, sizePn]
  simp only [Result.andThen, sliced, Nat.zero_mul, Nat.sub_zero]
  congr 2
  split
  · rfl
  · cases a
    · rfl
    · simp [hadd]
@[go_sem high] theorem run_lhPn (w : World) (a : Option Addr) (n c : Nat) (i j : Int) (h0 : 0 ≤ i) (h1 : i ≤ j) (h2 : j ≤ c) :
    (Instr.slice 22 (.slice a n c) (some (.int .i64 i)) (some (.int .i64 j)) none).run Tryz.prog w = .ok (.slice (subP a i.toNat c) (j.toNat - i.toNat) (c - i.toNat)) w := by
  rw [run_slice_lh w 22 a n c elemPn .i64 .i64 i j h0 h1 h2, sizePn]
  simp only [Result.andThen, sliced, subP]
@[go_sem high] theorem run_lhmPn (w : World) (a : Option Addr) (n c : Nat) (i j m : Int) (h0 : 0 ≤ i) (h1 : i ≤ j) (h2 : j ≤ m) (h3 : m ≤ c) :
    (Instr.slice 22 (.slice a n c) (some (.int .i64 i)) (some (.int .i64 j)) (some (.int .i64 m))).run Tryz.prog w = .ok (.slice (subP a i.toNat m.toNat) (j.toNat - i.toNat) (m.toNat - i.toNat)) w := by
  rw [run_slice_lhm w 22 a n c elemPn .i64 .i64 .i64 i j m h0 h1 h2 h3, sizePn]
  simp only [Result.andThen, sliced, subP]
def zAn : List Value := [.int .i64 0, .string ⟨#[]⟩, .int .i64 0, .int .i64 0]
theorem zAn_zero (w : World) : (zeroValue 33).run Tryz.prog w = .ok (.agg #[.int .i64 0, .string ⟨#[]⟩, .int .i64 0, .int .i64 0]) w := by kernel_rfl
end Go.Proofs.YtihioekepflpiaaGreatDoor
namespace Go.Proofs.YtihioekepflpiaaGreatDoor
open Go.RowKit Bu
theorem an_full' : (Tryz.prog.info? 33).map (fun i => (i.zero, i.size, i.bytes)) = some (some (.agg #[.int .i64 0, .string ⟨#[]⟩, .int .i64 0, .int .i64 0]), 4, 40) := by kernel_rfl
theorem subP_own (g k c : Nat) : subP (some ⟨g, 0, none⟩) k c = some ⟨g, if c = k then 0 else k * 4, none⟩ := by
  unfold subP
  split
  · rfl
  · rw [Option.map_some, addr_addO, Nat.zero_add]
set_option maxRecDepth 100000 in
set_option maxHeartbeats 8000000 in
theorem anDelete_any (base g c i : Nat) (l : List An) (w : World) (h : w.ownsRow base 33 4 (.slice (some ⟨g, 0, none⟩) l.length c) l.length (cellsA l)) (hi : i < l.length) (hl : l.length ≤ 2000) :
    Calls Tryz.prog 29 #[.slice (some ⟨g, 0, none⟩) l.length c, .int .i64 i, .int .i64 ((i : Int) + 1)] w fun e w' => e = .returned (.slice (some ⟨g, 0, none⟩) (l.length - 1) c) ∧ w'.ownsRow base 33 4 (.slice (some ⟨g, 0, none⟩) (l.length - 1) c) (l.length - 1) (cellsA (l.take i ++ l.drop (i + 1))) ∧ w.grownBy w' (some g) := by
  obtain ⟨g', cap, cur, hv, hb, hg, hnc, hcm, hcs, htake⟩ := h.2.resolve_left (fun h => by have := h.1; cases this)
  simp only [Value.slice.injEq, Option.some.injEq, Addr.mk.injEq, and_true, true_and] at hv
  obtain ⟨rfl, rfl⟩ := hv
  clear h
  obtain ⟨i0, hi0, _, hz0, _⟩ := info_parts an_full'
  -- the row's cells, parted
  obtain ⟨R, hR⟩ : ∃ R, R = cur.toList.drop (l.length * 4) := ⟨_, rfl⟩
  have hcur : cur = (cellsA l ++ R).toArray := by rw [hR, ← htake, List.take_append_drop]
  have hRl : R.length = (c - l.length) * 4 := by
    rw [hR, List.length_drop, Array.length_toList, hcs, Nat.sub_mul]
  obtain ⟨T, hT⟩ : ∃ T, T = cellsA (l.take i) := ⟨_, rfl⟩
  obtain ⟨D, hD⟩ : ∃ D, D = cellsA (l.drop (i + 1)) := ⟨_, rfl⟩
  obtain ⟨E, hE⟩ : ∃ E, E = cellsA (l.drop i) := ⟨_, rfl⟩
  have hTl : T.length = i * 4 := by rw [hT, cellsA_len, List.length_take]; congr 1; omega
  have hDl : D.length = (l.length - (i + 1)) * 4 := by rw [hD, cellsA_len, List.length_drop]
  have hEl : E.length = (l.length - i) * 4 := by rw [hE, cellsA_len, List.length_drop]
  have hTE : cellsA l = T ++ E := by rw [hT, hE, ← cellsA_app, List.take_append_drop]
  have hTD : cellsA (l.take i ++ l.drop (i + 1)) = T ++ D := by rw [hT, hD, ← cellsA_app]
  have hone : ∀ u ∈ D, u.oneCell' = true := by rw [hD]; exact cellsA_one _
  have hED : ∀ j u, D[j]? = some u → (cellsA l)[(i + 1) * 4 + j]? = some u := fun j u hj => by
    rw [hD, ← cellsA_drop, List.getElem?_drop] at hj
    exact hj
  obtain ⟨M, hM⟩ : ∃ M, M = E.take D.length := ⟨_, rfl⟩
  obtain ⟨O, hO⟩ : ∃ O, O = E.drop D.length ++ R := ⟨_, rfl⟩
  have hMl : M.length = D.length := by rw [hM, List.length_take, hEl, hDl]; omega
  have hOl : O.length = 4 + R.length := by rw [hO, List.length_append, List.length_drop, hEl, hDl]; omega
  have hall : cellsA l ++ R = T ++ M ++ O := by rw [hTE, hM, hO, List.append_assoc, List.append_assoc, ← List.append_assoc (List.take _ _), List.take_append_drop]
  have hg0 : w.drew.heap[g]? = some (.cells (T ++ M ++ O).toArray 33 (0, 0)) := by show w.heap[g]? = _; rw [hg, hcur, hall]
  obtain ⟨W1, hW1⟩ : ∃ W1, W1 = w.drew.setCells g (0 + i * 4) D := ⟨_, rfl⟩
  have hg1 : W1.heap[g]? = some (.cells (T ++ D ++ O).toArray 33 (0, 0)) := by
    have := setCells_heap D T M O w.drew hg0 hMl
    rw [hTl] at this
    rw [hW1, Nat.zero_add]; exact this
  obtain ⟨o4, O', hO4, hOO⟩ : ∃ o4 O', O = o4 ++ O' ∧ o4.length = 4 := ⟨O.take 4, O.drop 4, (List.take_append_drop _ _).symm, by rw [List.length_take]; omega⟩
  have hTDl : (T ++ D).length = (l.length - 1) * 4 := by rw [List.length_append, hTl, hDl]; omega
  obtain ⟨W2, hW2⟩ : ∃ W2, W2 = W1.setCells g ((l.length - 1) * 4) zAn := ⟨_, rfl⟩
  have hg2 : W2.heap[g]? = some (.cells (T ++ D ++ zAn ++ O').toArray 33 (0, 0)) := by
    have := setCells_heap zAn (T ++ D) o4 O' W1 (by rw [hg1, hO4, ← List.append_assoc]) (by rw [hOO]; rfl)
    rw [hTDl] at this
    rw [hW2]; exact this
  have hgw : w.grownBy W2 (some g) := by
    rw [hW2, hW1]
    exact grown_setCells g (.inr rfl) _ _ _ (grown_setCells g (.inr rfl) _ _ _ (grown_drewN (grown_refl _ _) 1))
  have hown : W2.ownsRow base 33 4 (.slice (some ⟨g, 0, none⟩) (l.length - 1) c) (l.length - 1) (cellsA (l.take i ++ l.drop (i + 1))) := by
    rw [hTD]
    refine ⟨hTDl, .inr ⟨g, c, _, rfl, hb, hg2, by omega, hcm, ?_, ?_⟩⟩
    · have : O'.length = R.length := by have := congrArg List.length hO4; rw [List.length_append, hOl, hOO] at this; omega
      rw [List.size_toArray, List.length_append, List.length_append, hTDl, this, hRl]
      show (l.length - 1) * 4 + 4 + (c - l.length) * 4 = c * 4
      omega
    · rw [List.append_assoc, ← hTDl]
      exact List.take_left
  have HFin := Lib.hid (And.intro hown hgw)
  -- the append
  have hsrc : Hid (∀ j u, D[j]? = some u → w.drew.cell? (Addr.add ⟨g, if c = i + 1 then 0 else (i + 1) * 4, none⟩ j) = some u) := Lib.hid (fun j u hj => by
    have hjl := (List.getElem?_eq_some_iff.1 hj).1
    rw [hDl] at hjl
    rw [if_neg (by omega), addr_addO]
    have h1 := hED j u hj
    show w.cell? _ = _
    rw [hcur] at hg
    exact cell_blk hg ((i + 1) * 4 + j) (by rw [List.getElem?_toArray, List.getElem?_append_left (List.getElem?_eq_some_iff.1 h1).1]; exact h1))
  have s1 : Hid (D.length = (l.length - (i + 1)) * 4) := Lib.hid hDl
  have s2 := Lib.hid hone
  have s3 : Hid (∀ t, t < D.length → (w.drew.cell? ⟨g, 0 + i * 4 + t, none⟩).isSome = true ∧ w.drew.frozen? ⟨g, 0 + i * 4 + t, none⟩ = false) := Lib.hid (fun t ht => by
    refine ⟨?_, free_blk hg _⟩
    have hlt : 0 + i * 4 + t < cur.size := by rw [hcs]; rw [hDl] at ht; omega
    show (w.cell? _).isSome = true
    rw [cell_blk hg (0 + i * 4 + t) (Array.getElem?_eq_getElem hlt)]
    rfl)
  have hcl : ∀ ty, (Builtin.clear_ #[22] ty #[.slice (some ⟨g, (i + (l.length - (i + 1))) * 4, none⟩) (l.length - (i + (l.length - (i + 1)))) (c - (i + (l.length - (i + 1))))]).run Tryz.prog W1 = .ok (.tuple #[]) W2 := fun ty => by
    have e1 : i + (l.length - (i + 1)) = l.length - 1 := by omega
    have e2 : l.length - (l.length - 1) = 1 := by omega
    rw [e1, e2, hW2]
    refine run_clearN W1 22 33 ty _ zAn Tryz.underlying22 zAn_zero rfl (by intro u hu; simp [zAn] at hu; rcases hu with rfl | rfl | rfl <;> rfl) g ((l.length - 1) * 4) (c - (l.length - 1)) (fun j hj => ?_) (fun j hj => free_blk hg1 _)
    have hlt : (l.length - 1) * 4 + j < (T ++ D ++ O).toArray.size := by rw [List.size_toArray, List.length_append, hTDl, hOl]; have : j < 4 := hj; omega
    rw [cell_blk hg1 _ (Array.getElem?_eq_getElem hlt)]
    rfl
  have HW1 : Hid (W1 = w.drew.setCells g (0 + i * 4) D) := Lib.hid hW1
  obtain ⟨n, hn⟩ : ∃ n, n = l.length := ⟨_, rfl⟩
  rw [← hn] at hi hl hnc s1 hcl HFin ⊢
  have b1 : (0 : Int) ≤ (i : Int) := by omega
  have b2 : (i : Int) ≤ (i : Int) + 1 := by omega
  have b3 : (i : Int) + 1 ≤ (n : Int) := by omega
  have b4 : (n : Int) ≤ (c : Int) := by omega
  have b5 : (0 : Int) ≤ (i : Int) + 1 := by omega
  have b6 : (i : Int) ≤ (c : Int) := by omega
  have b7 : ((i : Int) + 1).toNat = i + 1 := by omega
  have b8 : ((i : Int) == (i : Int) + 1) = false := by rw [beq_eq_false_iff_ne]; omega
  have b8' : ¬ (i : Int) = (i : Int) + 1 := by omega
  have b9 : (0 : Int) ≤ ((i + (n - (i + 1)) : Nat) : Int) := by omega
  have b10 : ((i + (n - (i + 1)) : Nat) : Int) ≤ (n : Int) := by omega
  have b11 : ((i + (n - (i + 1)) : Nat) : Int).toNat = i + (n - (i + 1)) := by omega
  have HN1 : Hid (i + (n - (i + 1)) = n - 1) := Lib.hid (by omega)
  clear hW1 hW2 hg0 hg1 hg2 hgw hown hall hM hO hMl hOl hO4 hOO hTDl hED hone hTE hTD hTl hDl hEl hT hD hE hR hcur hRl hg htake hcs hn
  have HI0 := Lib.hid hi0
  have HZ0 := Lib.hid hz0
  clear hi0 hz0
  go_enter Tryz.func29, Tryz.ntmps29
  go_wp2
  go_region_law (refine step_append_room rfl (.tmp 22) (.tmp 25) 22 rfl 33 i0 4 Tryz.underlying22 HI0.out HZ0.out g 0 i c (by simp [Act.eval, Act.put]) ⟨g, if c = i + 1 then 0 else (i + 1) * 4, none⟩ (n - (i + 1)) (c - (i + 1)) D (by simp [Act.eval, Act.put, subP_own]) s1.out hsrc.out s2.out (by omega) s3.out ?_; rw [← HW1.out])
  go_wp2
  go_ret
  rw [HN1.out]
  exact ⟨rfl, HFin.out⟩
end Go.Proofs.YtihioekepflpiaaGreatDoor
