/- Parts of subjects in a row; package names' Parts, the document's (by wip/tools/gennq5.py). -/
import Derived.Test.YtepjjgplnmkjgaaDoorNq3
import Derived.Test.YtepjjgplnmkjgaaDoorAp3
import Derived.BigQuiet
namespace Go.Proofs.YtepjjgplnmkjgaaDoor
open Go.RowKit
set_option linter.unusedVariables false

def cellsP (l : List Na.Pr) : List Value := (l.map fun p => [Value.string p.1, Value.string p.2]).flatten
theorem cellsP_nil : cellsP [] = [] := rfl
theorem cellsP_cons (p : Na.Pr) (l : List Na.Pr) : cellsP (p :: l) = .string p.1 :: .string p.2 :: cellsP l := rfl
theorem cellsP_append (a b : List Na.Pr) : cellsP (a ++ b) = cellsP a ++ cellsP b := by simp [cellsP]
theorem cellsP_at : ∀ (l : List Na.Pr) (i : Nat), i < l.length → (cellsP l)[i * 2]? = some (.string (l.getD i (Na.e0, Na.e0)).1) ∧ (cellsP l)[i * 2 + 1]? = some (.string (l.getD i (Na.e0, Na.e0)).2)
  | [], i, h => absurd h (Nat.not_lt_zero _)
  | p :: r, 0, _ => ⟨rfl, rfl⟩
  | p :: r, i + 1, h => by
    have := cellsP_at r i (by simpa using h)
    rw [cellsP_cons, show (i + 1) * 2 = i * 2 + 1 + 1 by omega, show i * 2 + 1 + 1 + 1 = (i * 2 + 1) + 1 + 1 by omega]
    simpa using this
/-- The slice v has just these parts. -/
def Prts (w : World) (v : Value) (l : List Na.Pr) : Prop :=
  ∃ (a : Option Addr) (sb so c : Nat), v = .slice a l.length c ∧ (0 < l.length → a = some ⟨sb, so, none⟩ ∧ sb < w.heap.size) ∧ ∀ i, i < l.length → w.cell? ⟨sb, so + i * 2, none⟩ = some (.string (l.getD i (Na.e0, Na.e0)).1) ∧ w.cell? ⟨sb, so + i * 2 + 1, none⟩ = some (.string (l.getD i (Na.e0, Na.e0)).2)
theorem Prts.grown {w w' : World} {v : Value} {l : List Na.Pr} (h : Prts w v l) (hg : w.grownBy w' none) : Prts w' v l := by
  obtain ⟨a, sb, so, c, h1, h3, h4⟩ := h
  refine ⟨a, sb, so, c, h1, fun hp => ⟨(h3 hp).1, Nat.lt_of_lt_of_le (h3 hp).2 hg.size⟩, fun j hj => ?_⟩
  have hb := hg.block sb (h3 (by omega)).2 (by simp)
  exact ⟨(World.cell?_of_block hb).trans (h4 j hj).1, (World.cell?_of_block hb).trans (h4 j hj).2⟩
theorem Prts.own {w : World} {base : Nat} {v : Value} {n : Nat} {l : List Na.Pr} (h : w.ownsRow base 25 2 v n (cellsP l)) (hn : n = l.length) : Prts w v l := by
  subst hn
  obtain ⟨a, g, c, rfl, _, _, _, _, h2⟩ := own_formN h
  refine ⟨a, g, 0, c, rfl, fun hp => ⟨(h2 hp).1, (h2 hp).2.1⟩, fun i hi => ?_⟩
  obtain ⟨_, _, h3, _⟩ := h2 (by omega)
  obtain ⟨k1, k2⟩ := cellsP_at l i hi
  rw [Nat.zero_add]
  exact ⟨h3 _ _ k1, h3 _ _ k2⟩
theorem iPart : ((Tryd.prog.info? 25).map (fun i => (i.zero, i.size, i.bytes))) = some (some (.agg #[.string ⟨#[]⟩, .string ⟨#[]⟩]), 2, 32) := by kernel_rfl
/-- A row of one, just built. -/
theorem own_one {w : World} (base : Nat) (hb : base ≤ w.heap.size) (x y : Value) : (w.alloc (.cells #[x, y] 25)).ownsRow base 25 2 (.slice (some ⟨w.heap.size, 0, none⟩) 1 1) 1 [x, y] :=
  ⟨rfl, .inr ⟨w.heap.size, 1, #[x, y], rfl, hb, alloc_at w _, Nat.le_refl _, by unfold maxLen; omega, rfl, rfl⟩⟩
/-- A block of another kind of thing stands where an own row was written to. -/
theorem hold_own {w wa w' : World} {b base : Nat} {e t : TypeId} {sz n : Nat} {v : Value} {xs : List Value} {cs : Array Value} {fr : Nat × Nat} (h : w.heap[b]? = some (.cells cs t fr)) (hg0 : w.grownBy wa none) (hv : wa.ownsRow base e sz v n xs) (he : e ≠ t) (hg : wa.grownBy w' v.ownBlock) : w'.heap[b]? = some (.cells cs t fr) := by
  have ha := hold_blk h hg0
  rw [hg.block b (blk_lt ha) (fun e2 => own_cells_ne hv ha he e2.symm)]
  exact ha
set_option maxRecDepth 100000 in
set_option maxHeartbeats 4000000 in
theorem parts9_ok (s : Na.Sb) (h1 : s.sp.size ≤ 1000) (h2 : s.nm.size ≤ 1000) (hr : Na.right s = true) (w : World) (hW : Words w) : Calls Tryd.prog 19 #[Na.val s] w fun e w' => ∃ v, e = .returned (.tuple #[v, .nilIface]) ∧ w.grownBy w' none ∧ w'.ownsRow w.heap.size 25 2 v (Na.parts s).length (cellsP (Na.parts s)) := by
  have hI : (Tryd.prog.info? 27).map (·.size) = some 3 := by kernel_rfl
  have HIP := Lib.hid iPart
  have HR := Lib.hid (fun W => right_any s h1 h2 W)
  have hk := (Na.right_facts hr).1
  rw [hr] at HR
  obtain ⟨R, hR⟩ : ∃ R, R = Na.parts s := ⟨_, rfl⟩
  rw [← hR]
  unfold Na.parts Na.o1 Na.o2 Na.o3 at hR
  obtain ⟨k, sp, nm⟩ := s
  simp only at *
  obtain ⟨n, rfl⟩ : ∃ n : Nat, k = n := ⟨k.toNat, by omega⟩
  have he := emp_str sp
  unfold Na.val at *
  generalize hwd : Na.word (n : Int) = wd at *
  have HC : Hid (∀ W, (w.alloc (.cells #[.int .i64 n, .string sp, .string nm] 27)).grownBy W none → W.heap[w.heap.size]? = some (.cells #[.int .i64 n, .string sp, .string nm] 27 (0, 0)) ∧ W.cell? ⟨28, n, none⟩ = some (.string wd)) := Lib.hid (fun W hg => by
    refine ⟨hold_blk (alloc_at w _) hg, ?_⟩
    rw [← hwd]
    exact (hW.grown (grown_alloc (grown_refl _ _) _)).grown hg n (by omega))
  have k0 : (0 : Int) ≤ (n : Int) := by omega
  have k6 : (n : Int) < 6 := by omega
  have HB := Lib.hid (alloc_at w (.cells #[.int .i64 n, .string sp, .string nm] 27))
  have HOne := Lib.hid (fun (w : World) base hb x y => own_one (w := w) base hb x y)
  by_cases hs : sp = ⟨#[]⟩
  · rw [decide_eq_true hs] at he
    rw [if_pos (show sp = Na.e0 from hs)] at hR
    have HRs := Lib.hid hR
    clear hR hs hr hk hW h1 h2 hwd
    go_enter Tryd.func19, Tryd.ntmps19
    go_wp2_with (first
      | (refine wpList_load_row (by rfl) 27 (.tmp 1) (by rfl) w.heap.size (by rfl) 27 #[.int .i64 (n : Int), .string sp, .string nm] (0, 0) _ HB.out Tryd.underlying27 rfl hI ?_)
      | (go_at_call 25; refine (HR.out _).mono ?_; rintro e w2 ⟨rfl, hg2⟩; obtain ⟨hb, c3⟩ := HC.out _ hg2; have c0 := cell_blk hb 0 rfl; have c1 := cell_blk hb 1 rfl; have c2 := cell_blk hb 2 rfl; have hlt := blk_lt hb; have HG2 := Lib.hid (grown_trans (grown_alloc (grown_refl _ _) _) hg2); clear hg2 hb; have e0 := HOne.out w2 w.heap.size HG2.out.size (.string ⟨#[49, 46, 51, 46, 57, 57, 57, 57, 46, 49, 46, 49]⟩) (.string wd); have E0 := Lib.hid (e0.alloc (.cells #[.string ⟨#[49, 46, 51, 46, 57, 57, 57, 57, 46, 49, 46, 51]⟩, .string nm] 25)); clear e0)
      | (at_builtin; refine wpList_appN2 (by rfl) (.tmp 24) (.tmp 28) 22 (by rfl) w.heap.size 25 (.agg #[.string ⟨#[]⟩, .string ⟨#[]⟩]) 2 32 Tryd.underlying22 HIP.out rfl (by decide) (by decide) _ 1 [.string ⟨#[49, 46, 51, 46, 57, 57, 57, 57, 46, 49, 46, 49]⟩, .string wd] (by rfl) E0.out ⟨_, 0, none⟩ 1 _ [.string ⟨#[49, 46, 51, 46, 57, 57, 57, 57, 46, 49, 46, 51]⟩, .string nm] (by rfl) rfl (by intro j u hj; rw [addr_addO, Nat.zero_add]; exact cell_blk (alloc_at2 w2 (.cells #[.string ⟨#[49, 46, 51, 46, 57, 57, 57, 57, 46, 49, 46, 49]⟩, .string wd] 25) (.cells #[.string ⟨#[49, 46, 51, 46, 57, 57, 57, 57, 46, 49, 46, 51]⟩, .string nm] 25)) j (by simpa using hj)) (by intro u hu; simp at hu; rcases hu with rfl | rfl <;> rfl) (by omega) (by have := HG2.out.size; simp only [alloc_size]; omega) ?_; intro v3 w3 ho3 hg3 _; have O3_ := Lib.hid ho3; have G3 := Lib.hid hg3; clear ho3 hg3))
    go_ret2
    refine ⟨_, rfl, grown_own (grown_alloc HG2.out _) (HOne.out w2 w.heap.size HG2.out.size (.string ⟨#[49, 46, 51, 46, 57, 57, 57, 57, 46, 49, 46, 49]⟩) (.string wd)) (Nat.le_refl _) (grown_trans (World.grownBy_alloc _ _ _) G3.out), ?_⟩
    rw [HRs.out]
    exact O3_.out
  · rw [decide_eq_false hs] at he
    rw [if_neg (show ¬ sp = Na.e0 from hs)] at hR
    have HRs := Lib.hid hR
    clear hR hs hr hk hW h1 h2 hwd
    go_enter Tryd.func19, Tryd.ntmps19
    go_wp2_with (first
      | (refine wpList_load_row (by rfl) 27 (.tmp 1) (by rfl) w.heap.size (by rfl) 27 #[.int .i64 (n : Int), .string sp, .string nm] (0, 0) _ HB.out Tryd.underlying27 rfl hI ?_)
      | (go_at_call 25; refine (HR.out _).mono ?_; rintro e w2 ⟨rfl, hg2⟩; obtain ⟨hb, c3⟩ := HC.out _ hg2; have HB2 := Lib.hid hb; have c0 := cell_blk hb 0 rfl; have c1 := cell_blk hb 1 rfl; have c2 := cell_blk hb 2 rfl; have hlt := blk_lt hb; have HG2 := Lib.hid (grown_trans (grown_alloc (grown_refl _ _) _) hg2); clear hg2 hb; have e0 := HOne.out w2 w.heap.size HG2.out.size (.string ⟨#[49, 46, 51, 46, 57, 57, 57, 57, 46, 49, 46, 49]⟩) (.string wd); have E0 := Lib.hid (e0.alloc (.cells #[.string ⟨#[49, 46, 51, 46, 57, 57, 57, 57, 46, 49, 46, 50]⟩, .string sp] 25)); clear e0)
      | (at_builtin; refine wpList_appN2 (by rfl) (.tmp 18) (.tmp 22) 22 (by rfl) w.heap.size 25 (.agg #[.string ⟨#[]⟩, .string ⟨#[]⟩]) 2 32 Tryd.underlying22 HIP.out rfl (by decide) (by decide) _ 1 [.string ⟨#[49, 46, 51, 46, 57, 57, 57, 57, 46, 49, 46, 49]⟩, .string wd] (by rfl) E0.out ⟨_, 0, none⟩ 1 _ [.string ⟨#[49, 46, 51, 46, 57, 57, 57, 57, 46, 49, 46, 50]⟩, .string sp] (by rfl) rfl (by intro j u hj; rw [addr_addO, Nat.zero_add]; exact cell_blk (alloc_at2 w2 (.cells #[.string ⟨#[49, 46, 51, 46, 57, 57, 57, 57, 46, 49, 46, 49]⟩, .string wd] 25) (.cells #[.string ⟨#[49, 46, 51, 46, 57, 57, 57, 57, 46, 49, 46, 50]⟩, .string sp] 25)) j (by simpa using hj)) (by intro u hu; simp at hu; rcases hu with rfl | rfl <;> rfl) (by omega) (by have := HG2.out.size; simp only [alloc_size]; omega) ?_; intro v3 w3 ho3 hg3 _; have O3_ := Lib.hid ho3; have G3 := Lib.hid hg3; clear ho3 hg3; have HB3 := Lib.hid (hold_own HB2.out (World.grownBy_alloc _ _ none) (HOne.out w2 w.heap.size HG2.out.size (.string ⟨#[49, 46, 51, 46, 57, 57, 57, 57, 46, 49, 46, 49]⟩) (.string wd)) (by decide) (grown_trans (World.grownBy_alloc _ _ _) G3.out)); have c2 := cell_blk HB3.out 2 rfl; have hlt3 := blk_lt HB3.out; have E3 := Lib.hid (O3_.out.alloc (.cells #[.string ⟨#[49, 46, 51, 46, 57, 57, 57, 57, 46, 49, 46, 51]⟩, .string nm] 25)); have HG3 := Lib.hid (grown_own (grown_alloc HG2.out _) (HOne.out w2 w.heap.size HG2.out.size (.string ⟨#[49, 46, 51, 46, 57, 57, 57, 57, 46, 49, 46, 49]⟩) (.string wd)) (Nat.le_refl _) (grown_trans (World.grownBy_alloc _ _ _) G3.out)))
      | (at_builtin; refine wpList_appN2 (by rfl) (.tmp 24) (.tmp 28) 22 (by rfl) w.heap.size 25 (.agg #[.string ⟨#[]⟩, .string ⟨#[]⟩]) 2 32 Tryd.underlying22 HIP.out rfl (by decide) (by decide) _ 2 [.string ⟨#[49, 46, 51, 46, 57, 57, 57, 57, 46, 49, 46, 49]⟩, .string wd, .string ⟨#[49, 46, 51, 46, 57, 57, 57, 57, 46, 49, 46, 50]⟩, .string sp] (by rfl) E3.out ⟨_, 0, none⟩ 1 _ [.string ⟨#[49, 46, 51, 46, 57, 57, 57, 57, 46, 49, 46, 51]⟩, .string nm] (by rfl) rfl (by intro j u hj; rw [addr_addO, Nat.zero_add]; exact cell_blk (alloc_at w3 (.cells #[.string ⟨#[49, 46, 51, 46, 57, 57, 57, 57, 46, 49, 46, 51]⟩, .string nm] 25)) j (by simpa using hj)) (by intro u hu; simp at hu; rcases hu with rfl | rfl <;> rfl) (by omega) (by have := HG3.out.size; simp only [alloc_size]; omega) ?_; intro v4 w4 ho4 hg4 _; have O4_ := Lib.hid ho4; have G4 := Lib.hid hg4; clear ho4 hg4))
    go_ret2
    refine ⟨_, rfl, grown_own HG3.out O3_.out (Nat.le_refl _) (grown_trans (World.grownBy_alloc _ _ _) G4.out), ?_⟩
    rw [HRs.out]
    exact O4_.out
set_option maxRecDepth 100000 in
set_option maxHeartbeats 4000000 in
theorem refParts9_any (s : Na.Sb) (hr : Na.right s = true) (w : World) : Calls Tryd.prog 22 #[Na.val s] w fun e w' => ∃ v, e = .returned v ∧ w.grownBy w' none ∧ w'.ownsRow w.heap.size 25 2 v (Na.parts s).length (cellsP (Na.parts s)) := by
  have HIP := Lib.hid iPart
  obtain ⟨hk, _, _, h4, h5⟩ := Na.right_facts hr
  obtain ⟨R, hR⟩ : ∃ R, R = Na.parts s := ⟨_, rfl⟩
  rw [← hR]
  unfold Na.parts Na.o1 Na.o2 Na.o3 at hR
  obtain ⟨k, sp, nm⟩ := s
  simp only at *
  have HWd := Lib.hid (fun W => word_any k ⟨by omega, by omega⟩ W)
  unfold Na.val at *
  generalize Na.word k = wd at *
  have HC : Hid (∀ W, (w.alloc (.cells #[.int .i64 k, .string sp, .string nm] 27)).grownBy W none → W.heap[w.heap.size]? = some (.cells #[.int .i64 k, .string sp, .string nm] 27 (0, 0))) := Lib.hid (fun W hg => hold_blk (alloc_at w _) hg)
  have HOne := Lib.hid (fun (w : World) base hb x y => own_one (w := w) base hb x y)
  by_cases hs : k = 2
  · rw [if_neg (fun h => h5.1 h hs)] at hR
    have HRs := Lib.hid hR
    have hk2 : (k == 2) = true := by rw [hs]; rfl
    clear hR hs hr hk h4 h5
    go_enter Tryd.func22, Tryd.ntmps22
    go_wp2_with (first
      | (go_at_call 26; refine (HWd.out _).mono ?_; rintro e w2 ⟨rfl, hg2⟩; have hb := HC.out _ hg2; have HB2 := Lib.hid hb; have c0 := cell_blk hb 0 rfl; have c1 := cell_blk hb 1 rfl; have c2 := cell_blk hb 2 rfl; have hlt := blk_lt hb; have HG2 := Lib.hid (grown_trans (grown_alloc (grown_refl _ _) _) hg2); clear hg2 hb; have e0 := HOne.out w2 w.heap.size HG2.out.size (.string ⟨#[49, 46, 51, 46, 57, 57, 57, 57, 46, 49, 46, 49]⟩) (.string wd); have E0 := Lib.hid (e0.alloc (.cells #[.string ⟨#[49, 46, 51, 46, 57, 57, 57, 57, 46, 49, 46, 50]⟩, .string sp] 25)); clear e0)
      | (at_builtin; refine wpList_appN2 (by rfl) (.tmp 12) (.tmp 16) 22 (by rfl) w.heap.size 25 (.agg #[.string ⟨#[]⟩, .string ⟨#[]⟩]) 2 32 Tryd.underlying22 HIP.out rfl (by decide) (by decide) _ 1 [.string ⟨#[49, 46, 51, 46, 57, 57, 57, 57, 46, 49, 46, 49]⟩, .string wd] (by rfl) E0.out ⟨_, 0, none⟩ 1 _ [.string ⟨#[49, 46, 51, 46, 57, 57, 57, 57, 46, 49, 46, 50]⟩, .string sp] (by rfl) rfl (by intro j u hj; rw [addr_addO, Nat.zero_add]; exact cell_blk (alloc_at2 w2 (.cells #[.string ⟨#[49, 46, 51, 46, 57, 57, 57, 57, 46, 49, 46, 49]⟩, .string wd] 25) (.cells #[.string ⟨#[49, 46, 51, 46, 57, 57, 57, 57, 46, 49, 46, 50]⟩, .string sp] 25)) j (by simpa using hj)) (by intro u hu; simp at hu; rcases hu with rfl | rfl <;> rfl) (by omega) (by have := HG2.out.size; simp only [alloc_size]; omega) ?_; intro v3 w3 ho3 hg3 _; have O3_ := Lib.hid ho3; have G3 := Lib.hid hg3; clear ho3 hg3; have HB3 := Lib.hid (hold_own HB2.out (World.grownBy_alloc _ _ none) (HOne.out w2 w.heap.size HG2.out.size (.string ⟨#[49, 46, 51, 46, 57, 57, 57, 57, 46, 49, 46, 49]⟩) (.string wd)) (by decide) (grown_trans (World.grownBy_alloc _ _ _) G3.out)); have c2 := cell_blk HB3.out 2 rfl; have hlt3 := blk_lt HB3.out; have E3 := Lib.hid (O3_.out.alloc (.cells #[.string ⟨#[49, 46, 51, 46, 57, 57, 57, 57, 46, 49, 46, 51]⟩, .string nm] 25)); have HG3 := Lib.hid (grown_own (grown_alloc HG2.out _) (HOne.out w2 w.heap.size HG2.out.size (.string ⟨#[49, 46, 51, 46, 57, 57, 57, 57, 46, 49, 46, 49]⟩) (.string wd)) (Nat.le_refl _) (grown_trans (World.grownBy_alloc _ _ _) G3.out)))
      | (at_builtin; refine wpList_appN2 (by rfl) (.tmp 18) (.tmp 22) 22 (by rfl) w.heap.size 25 (.agg #[.string ⟨#[]⟩, .string ⟨#[]⟩]) 2 32 Tryd.underlying22 HIP.out rfl (by decide) (by decide) _ 2 [.string ⟨#[49, 46, 51, 46, 57, 57, 57, 57, 46, 49, 46, 49]⟩, .string wd, .string ⟨#[49, 46, 51, 46, 57, 57, 57, 57, 46, 49, 46, 50]⟩, .string sp] (by rfl) E3.out ⟨_, 0, none⟩ 1 _ [.string ⟨#[49, 46, 51, 46, 57, 57, 57, 57, 46, 49, 46, 51]⟩, .string nm] (by rfl) rfl (by intro j u hj; rw [addr_addO, Nat.zero_add]; exact cell_blk (alloc_at w3 (.cells #[.string ⟨#[49, 46, 51, 46, 57, 57, 57, 57, 46, 49, 46, 51]⟩, .string nm] 25)) j (by simpa using hj)) (by intro u hu; simp at hu; rcases hu with rfl | rfl <;> rfl) (by omega) (by have := HG3.out.size; simp only [alloc_size]; omega) ?_; intro v4 w4 ho4 hg4 _; have O4_ := Lib.hid ho4; have G4 := Lib.hid hg4; clear ho4 hg4))
    go_ret
    refine ⟨_, rfl, grown_own HG3.out O3_.out (Nat.le_refl _) (grown_trans (World.grownBy_alloc _ _ _) G4.out), ?_⟩
    rw [HRs.out]
    exact O4_.out
  · rw [if_pos (h4 hs)] at hR
    have HRs := Lib.hid hR
    have hk2 : (k == 2) = false := by simpa using hs
    clear hR hs hr hk h4 h5
    go_enter Tryd.func22, Tryd.ntmps22
    go_wp2_with (first
      | (go_at_call 26; refine (HWd.out _).mono ?_; rintro e w2 ⟨rfl, hg2⟩; have hb := HC.out _ hg2; have c0 := cell_blk hb 0 rfl; have c1 := cell_blk hb 1 rfl; have c2 := cell_blk hb 2 rfl; have hlt := blk_lt hb; have HG2 := Lib.hid (grown_trans (grown_alloc (grown_refl _ _) _) hg2); clear hg2 hb; have e0 := HOne.out w2 w.heap.size HG2.out.size (.string ⟨#[49, 46, 51, 46, 57, 57, 57, 57, 46, 49, 46, 49]⟩) (.string wd); have E0 := Lib.hid (e0.alloc (.cells #[.string ⟨#[49, 46, 51, 46, 57, 57, 57, 57, 46, 49, 46, 51]⟩, .string nm] 25)); clear e0)
      | (at_builtin; refine wpList_appN2 (by rfl) (.tmp 18) (.tmp 22) 22 (by rfl) w.heap.size 25 (.agg #[.string ⟨#[]⟩, .string ⟨#[]⟩]) 2 32 Tryd.underlying22 HIP.out rfl (by decide) (by decide) _ 1 [.string ⟨#[49, 46, 51, 46, 57, 57, 57, 57, 46, 49, 46, 49]⟩, .string wd] (by rfl) E0.out ⟨_, 0, none⟩ 1 _ [.string ⟨#[49, 46, 51, 46, 57, 57, 57, 57, 46, 49, 46, 51]⟩, .string nm] (by rfl) rfl (by intro j u hj; rw [addr_addO, Nat.zero_add]; exact cell_blk (alloc_at2 w2 (.cells #[.string ⟨#[49, 46, 51, 46, 57, 57, 57, 57, 46, 49, 46, 49]⟩, .string wd] 25) (.cells #[.string ⟨#[49, 46, 51, 46, 57, 57, 57, 57, 46, 49, 46, 51]⟩, .string nm] 25)) j (by simpa using hj)) (by intro u hu; simp at hu; rcases hu with rfl | rfl <;> rfl) (by omega) (by have := HG2.out.size; simp only [alloc_size]; omega) ?_; intro v3 w3 ho3 hg3 _; have O3_ := Lib.hid ho3; have G3 := Lib.hid hg3; clear ho3 hg3))
    go_ret
    refine ⟨_, rfl, grown_own (grown_alloc HG2.out _) (HOne.out w2 w.heap.size HG2.out.size (.string ⟨#[49, 46, 51, 46, 57, 57, 57, 57, 46, 49, 46, 49]⟩) (.string wd)) (Nat.le_refl _) (grown_trans (World.grownBy_alloc _ _ _) G3.out), ?_⟩
    rw [HRs.out]
    exact O3_.out
end Go.Proofs.YtepjjgplnmkjgaaDoor
