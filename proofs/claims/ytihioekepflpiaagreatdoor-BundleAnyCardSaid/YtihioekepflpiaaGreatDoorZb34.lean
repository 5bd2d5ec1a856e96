import Derived.Test.YtihioekepflpiaaGreatDoorZb15
import Derived.Test.YtihioekepflpiaaGreatDoorZb33
import Derived.Lib.SmallJoins
import Derived.Deep.RegionHeld3
set_option linter.unusedVariables false
set_option linter.unusedSimpArgs false
namespace Go.Proofs.YtihioekepflpiaaGreatDoor
open Go.RowKit Bu
/-- Where a piece of a row of anchors begins. -/
def subR (a : Option Addr) (k c : Nat) : Option Addr := if c = k then a else a.map (·.add (k * 4))
/-- Its room has all that it has. -/
def Fits (v : Value) : Prop := ∀ a n c, v = .slice a n c → n ≤ c
theorem Fits.own {w : World} {base : Nat} {e : TypeId} {sz : Nat} {v : Value} {n : Nat} {xs : List Value} (h : w.ownsRow base e sz v n xs) : Fits v := by
  obtain ⟨a, g, c, rfl, hc, _⟩ := own_formN h
  intro a' n' c' e
  simp only [Value.slice.injEq] at e
  obtain ⟨_, rfl, rfl⟩ := e
  exact hc
theorem Ans.cut {w : World} {a : Option Addr} {c : Nat} {l : List An} (h : Ans w (.slice a l.length c) l) (hc : l.length ≤ c) (k : Nat) (hk : k ≤ l.length) : Ans w (.slice (subR a k c) (l.length - k) (c - k)) (l.drop k) := by
  rcases Nat.lt_or_ge k l.length with h1 | h1
  · obtain ⟨g, o, rfl, h2⟩ := Ans.from h k h1
    rw [subR, if_neg (by omega), Option.map_some, addr_addO]
    exact h2
  · obtain rfl : k = l.length := by omega
    rw [List.drop_length, Nat.sub_self]
    obtain ⟨⟨_, a', g, o, c', e, h2, h3⟩, h0⟩ := h
    simp only [Value.slice.injEq, true_and] at e
    obtain ⟨rfl, rfl⟩ := e
    refine ⟨⟨by simp [cellsA], _, 0, 0, _, rfl, fun h => absurd h (Nat.lt_irrefl _), fun j v hj => by cases hj⟩, fun n' c'' e => ?_⟩
    simp only [Value.slice.injEq] at e
    obtain ⟨e1, e2, e3⟩ := e
    have e4 : a = none := by
      unfold subR at e1
      split at e1
      · exact e1
      · cases a
        · rfl
        · cases e1
    have := h0 _ _ (by rw [e4])
    exact ⟨by omega, by omega⟩
theorem elemAn : Tryz.prog.underlying 28 = some (.slice (Tryz.prog.elem 28)) := by kernel_rfl
theorem sizeAn (w : World) : (sizeOf (Tryz.prog.elem 28)).run Tryz.prog w = .ok 4 w := by kernel_rfl
@[go_sem high] theorem run_fromAn (w : World) (a : Option Addr) (n c : Nat) (i : Int) (h0 : 0 ≤ i) (h1 : i ≤ n) :
    (Instr.slice 28 (.slice a n c) (some (.int .i64 i)) none none).run Tryz.prog w = .ok (.slice (subR a i.toNat c) (n - i.toNat) (c - i.toNat)) w := by
  rw [run_slice_l w 28 a n c elemAn .i64 i h0 h1, sizeAn]
  simp only [Result.andThen, sliced, subR]
@[go_sem high] theorem run_toAn (w : World) (a : Option Addr) (n c : Nat) (i : Int) (h0 : 0 ≤ i) (h1 : i ≤ c) :
    (Instr.slice 28 (.slice a n c) none (some (.int .i64 i)) none).run Tryz.prog w = .ok (.slice a i.toNat c) w := by
  have hadd : ∀ x : Addr, x.add 0 = x := fun x => by unfold Addr.add; split <;> simp_all
  rw [run_slice_h w 28 a n c elemAn .i64 i h0 h1, sizeAn]
  simp only [Result.andThen, sliced, Nat.zero_mul, Nat.sub_zero]
  congr 2
  split
  · rfl
  · cases a
    · rfl
    · simp [hadd]
theorem ran_full : (Tryz.prog.info? 42).map (fun i => (i.zero, i.size, i.bytes)) = some (some (.agg #[.int .i64 0, .string ⟨#[]⟩, .int .i64 0, .int .i64 0]), 4, 40) := by kernel_rfl
/-- One anchor, just boxed, as a row. -/
theorem Ans.lit {w : World} {g : Nat} {x : An} {t : TypeId} (h : w.heap[g]? = some (.cells #[.int .i64 x.g, .string x.k, .int .i64 x.f, .int .i64 x.t] t (0, 0))) : Ans w (.slice (some ⟨g, 0, none⟩) 1 1) [x] := by
  refine ⟨⟨rfl, some ⟨g, 0, none⟩, g, 0, 1, rfl, fun _ => ⟨rfl, blk_lt h⟩, fun j v hj => ?_⟩, Whole0.some _ _ _⟩
  rw [Nat.zero_add]
  match j, hj with
  | 0, hj => cases hj; exact cell_blk h 0 rfl
  | 1, hj => cases hj; exact cell_blk h 1 rfl
  | 2, hj => cases hj; exact cell_blk h 2 rfl
  | 3, hj => cases hj; exact cell_blk h 3 rfl
  | j + 4, hj => cases hj
end Go.Proofs.YtihioekepflpiaaGreatDoor
namespace Go.Proofs.YtihioekepflpiaaGreatDoor
open Go.RowKit Bu
/-- What is sorted of the first j. -/
def srtN (l : List An) (j : Nat) : List An := (l.take j).foldl ins []
theorem srtN_len (l : List An) (j : Nat) (h : j ≤ l.length) : (srtN l j).length = j := by
  have := (foldl_perm (l.take j) []).length_eq
  rw [List.nil_append, List.length_take] at this
  unfold srtN
  omega
theorem srtN_succ {l : List An} {j : Nat} (h : j < l.length) : srtN l (j + 1) = ins (srtN l j) (l.getD j an0) := by
  unfold srtN
  rw [take_snoc h, List.foldl_append]
  rfl
theorem srtN_all (l : List An) : srtN l l.length = srt l := by unfold srtN srt; rw [List.take_length]
theorem cells_ins (s : List An) (x : An) (q : Nat) (h : place x s s.length = q) : ([] ++ cellsA (s.take q)) ++ cellsA [x] ++ cellsA (s.drop q) = cellsA (ins s x) := by
  unfold ins
  rw [h, List.nil_append, ← cellsA_app, ← cellsA_app, List.append_assoc]
  rfl
set_option maxRecDepth 100000 in
set_option maxHeartbeats 16000000 in
theorem refSortedB_any (v : Value) (l : List An) (w : World) (hA : Ans w v l) (hl : l.length ≤ 2000) :
    Calls Tryz.prog 26 #[v] w fun e w' => ∃ v', e = .returned v' ∧ w'.ownsRow w.heap.size 42 4 v' l.length (cellsA (srt l)) ∧ w.grownBy w' none := by
  obtain ⟨a1, g1, s1, c1, rfl, ha1, _, hx1⟩ := hA.form
  have HX1 := Lib.hid (Ans.cells_at ha1 hx1)
  have HLn := Lib.hid (fun j (h : j ≤ l.length) => srtN_len l j h)
  have HSu := Lib.hid (fun j (h : j < l.length) => srtN_succ (l := l) h)
  have HAl := Lib.hid (srtN_all l)
  obtain ⟨n, hn⟩ : ∃ n, n = l.length := ⟨_, rfl⟩
  have HA1 : Hid (0 < n → a1 = some ⟨g1, s1, none⟩) := Lib.hid (fun h => (ha1 (by omega)).1)
  rw [← hn] at HX1 HLn HSu HAl hl ⊢
  have hI := ran_info
  have hIf := ran_full
  obtain ⟨w1, hw1⟩ : ∃ w1, w1 = w.alloc (.cells #[] 42) := ⟨_, rfl⟩
  have hg1 : w.grownBy w1 none := by rw [hw1]; exact World.grownBy_alloc _ _ _
  have ho1 : w1.ownsRow w.heap.size 42 4 (.slice (some ⟨w.heap.size, 0, none⟩) 0 0) 0 (cellsA (srtN l 0)) := by
    rw [hw1]
    have := World.ownsRow_made (base := w.heap.size) (e := 42) (size := 4) w #[] 0 (Nat.le_refl _) (Nat.zero_le _) (by simp)
    simpa [srtN, cellsA] using this
  have HO1 := Lib.hid ho1
  have HG1 := Lib.hid hg1
  have HW1 := Lib.hid hw1
  clear hA ha1 hx1 hn hw1 hg1 ho1
  go_enter Tryz.func26, Tryz.ntmps26
  go_wp2
  rw [← HW1.out]
  go_loopw [11, 3] (fun i o wr => ∃ j : Nat, j ≤ n ∧ i = .int .i64 (j : Int) ∧ w.grownBy wr none ∧ wr.ownsRow w.heap.size 42 4 o j (cellsA (srtN l j))) (fun i _ _ => n - (intOf i).toNat)
  case atStart => exact ⟨0, Nat.zero_le _, rfl, HG1.out, HO1.out⟩
  case round =>
    obtain ⟨j, hj, rfl, hG, hO⟩ := hrel
    have HG := Lib.hid hG
    have HO := Lib.hid hO
    by_cases hjn : j < n
    · obtain ⟨c0, c1', c2, c3⟩ := HX1.out wr HG.out j hjn
      obtain rfl := HA1.out (by omega)
      have hsl := HLn.out j (by omega)
      have HSx := Lib.hid (HSu.out j hjn)
      obtain ⟨x, hx⟩ : ∃ x, x = l.getD j an0 := ⟨_, rfl⟩
      rw [← hx] at c0 c1' c2 c3 HSx
      obtain ⟨s, hs⟩ : ∃ s, s = srtN l j := ⟨_, rfl⟩
      rw [← hs] at hO hsl HSx HO
      have hAo := (Ans.own hO).2
      have hFo := Fits.own hO
      obtain ⟨a2, g2, s2, c2', rfl, ha2, _, hx2⟩ := hAo.form
      have hc2 : s.length ≤ c2' := hFo _ _ _ rfl
      have HX2 := Lib.hid (Ans.cells_at ha2 hx2)
      have HCut := Lib.hid (fun q (hq : q ≤ s.length) W (hW : wr.grownBy W none) => (hAo.cut hc2 q hq).grown hW)
      have HTo := Lib.hid (fun q (hq : q ≤ s.length) W (hW : wr.grownBy W none) => (hAo.to q hq).grown hW)
      have HTl := Lib.hid (fun q (hq : q ≤ s.length) => (show (s.take q).length = q by rw [List.length_take]; omega))
      have HDl := Lib.hid (fun q (hq : q ≤ s.length) => (show (s.drop q).length = s.length - q by rw [List.length_drop]))
      have HA2 : Hid (0 < j → a2 = some ⟨g2, s2, none⟩) := Lib.hid (fun h => (ha2 (by omega)).1)
      have HCi := Lib.hid (cells_ins s x)
      have HP0 : Hid (∀ q, place x s (q + 1) = if x.g < (s.getD q an0).g then place x s q else q + 1) := Lib.hid (fun q => rfl)
      rw [hsl] at HX2 HCut HTo HTl HDl HCi hc2 ⊢
      have hc2i : (j : Int) ≤ (c2' : Int) := by omega
      obtain ⟨xg, hxg⟩ : ∃ xg, xg = x.g := ⟨_, rfl⟩
      obtain ⟨xk, hxk⟩ : ∃ xk, xk = x.k := ⟨_, rfl⟩
      obtain ⟨xf, hxf⟩ : ∃ xf, xf = x.f := ⟨_, rfl⟩
      obtain ⟨xt, hxt⟩ : ∃ xt, xt = x.t := ⟨_, rfl⟩
      have hxe : x = ⟨xg, xk, xf, xt⟩ := by rw [hxg, hxk, hxf, hxt]
      rw [← hxg] at c0 HP0
      rw [← hxk] at c1'
      rw [← hxf] at c2
      rw [← hxt] at c3
      have HXe := Lib.hid hxe
      clear hxg hxk hxf hxt hxe hx hs hO hAo hFo ha2 hx2 hG hsl
      obtain ⟨w4, hw4⟩ : ∃ w4, w4 = wr.alloc (.cells #[.int .i64 xg, .string xk, .int .i64 xf, .int .i64 xt] 42) := ⟨_, rfl⟩
      have HB4 : Hid (w4.heap[wr.heap.size]? = some (.cells #[.int .i64 xg, .string xk, .int .i64 xf, .int .i64 xt] 42 (0, 0))) := Lib.hid (by rw [hw4]; exact alloc_at _ _)
      have HG4 : Hid (wr.grownBy w4 none) := Lib.hid (by rw [hw4]; exact World.grownBy_alloc _ _ _)
      have HW4 := Lib.hid hw4
      clear hw4
      go_wp2
      rw [← HW4.out]
      obtain ⟨wo, rfl⟩ : ∃ wo : World, wo = wr := ⟨_, rfl⟩
      go_loopw [6] (fun k wr2 => ∃ q : Nat, q ≤ j ∧ k = .int .i64 (q : Int) ∧ w4.grownBy wr2 none ∧ place x s j = place x s q) (fun k _ => (intOf k).toNat)
      case atStart => exact ⟨j, Nat.le_refl _, rfl, grown_refl _ _, rfl⟩
      case round =>
        obtain ⟨q, hq, rfl, hgq, hpq⟩ := hrel
        have hb5 := hold_b3 HB4.out hgq
        have d0 := cell_blk hb5 0 rfl
        have HB5 := Lib.hid hb5
        have HGo := Lib.hid (grown_trans HG4.out hgq)
        have HGq := Lib.hid hgq
        have HPq := Lib.hid hpq
        clear hgq hpq hb5 c0 c1' c2 c3
        have hq1 : (0 : Int) ≤ (q : Int) := by omega
        have hq2 : (q : Int) ≤ (j : Int) := by omega
        have hq3 : (q : Int) ≤ (c2' : Int) := by omega
        by_cases hq0 : q = 0
        · have HPe : Hid (place x s j = q) := Lib.hid (by rw [HPq.out, hq0]; rfl)
          have hn1 : ¬ (0 : Int) < (q : Int) := by omega
          have hn2 : decide ((q : Int) > 0) = false := decide_eq_false hn1
          have hn3 : decide ((0 : Int) < (q : Int)) = false := decide_eq_false hn1
          have hn4 : ¬ 0 < q := by omega
          have HQ0 := Lib.hid hq0
          have HTq := Lib.hid (HTo.out q hq)
          have HDq := Lib.hid (HCut.out q hq)
          have HCq := Lib.hid (HCi.out q HPe.out)
          have htl := HTl.out q hq
          have hdl := HDl.out q hq
          have HPP := HPq
          clear hq0 HPq
          go_wp2
          go_quiet (fail)
          have HTL := Lib.hid htl
          have HDL := Lib.hid hdl
          clear htl hdl
          go_wp2_with (first
            | (at_builtin; refine wpList_appN3 (by rfl) (.tmp 32) (.tmp 35) 28 (by rfl) wr.heap.size 42 (.agg #[.int .i64 0, .string ⟨#[]⟩, .int .i64 0, .int .i64 0]) 4 40 Tryz.underlying28 hIf rfl (by decide) (by decide) _ 0 [] (by rfl) (World.ownsRow_made _ #[] 0 (Nat.le_refl _) (Nat.zero_le _) (by simp)) _ _ _ (by rfl) (HTq.out _ (grown_alloc (grown_drewN HGo.out _) _)).1 (HTq.out _ HGo.out).2 (cellsA_one _) (by rw [HTL.out]; omega) (by simp) ?_; intro v1 x1 ho hg hb; have HO1 := Lib.hid ho; have HGa : Hid (wr.grownBy x1 none) := Lib.hid (grown_forget (grown_alloc (grown_drewN (grown_refl _ _) _) _) (Nat.le_refl _) hg); have HBa := Lib.hid (hold_b3 HB5.out HGa.out); clear ho hg hb)
            | (refine wpList_load_row (by rfl) 42 (.tmp 5) (by rfl) wo.heap.size (by rfl) 42 #[.int .i64 xg, .string xk, .int .i64 xf, .int .i64 xt] (0, 0) _ HBa.out Tryz.underlying42 rfl hI ?_)
            | (at_builtin; refine wpList_appN3 (by rfl) (.tmp 37) (.tmp 39) 28 (by rfl) wr.heap.size 42 (.agg #[.int .i64 0, .string ⟨#[]⟩, .int .i64 0, .int .i64 0]) 4 40 Tryz.underlying28 hIf rfl (by decide) (by decide) _ _ _ (by rfl) (HO1.out.alloc _) _ _ _ (by rfl) (Ans.lit (x := ⟨xg, xk, xf, xt⟩) (alloc_at _ _)).1 (Whole0.some _ _ _) (cellsA_one _) (by rw [HTL.out]; simp; omega) (by have := HGa.out.size; rw [alloc_size]; omega) ?_; intro v2 x2 ho hg hb; have HO2 := Lib.hid ho; have HGb : Hid (wr.grownBy x2 none) := Lib.hid (grown_own (grown_alloc HGa.out _) (HO1.out.alloc _) (Nat.le_refl _) hg); clear ho hg hb)
            | (at_builtin; refine wpList_appN3 (by rfl) (.tmp 41) (.tmp 44) 28 (by rfl) wr.heap.size 42 (.agg #[.int .i64 0, .string ⟨#[]⟩, .int .i64 0, .int .i64 0]) 4 40 Tryz.underlying28 hIf rfl (by decide) (by decide) _ _ _ (by rfl) HO2.out _ _ _ (by rfl) (HDq.out _ (grown_trans HGo.out HGb.out)).1 (HDq.out _ HGo.out).2 (cellsA_one _) (by rw [HTL.out, HDL.out]; simp; omega) HGb.out.size ?_; intro v3 x3 ho hg hb; have HO3 := Lib.hid ho; have HGc : Hid (wr.grownBy x3 none) := Lib.hid (grown_own HGb.out HO2.out (Nat.le_refl _) hg); clear ho hg hb))
          have HF : Hid (x3.ownsRow w.heap.size 42 4 v3 (j + 1) (cellsA (srtN l (j + 1)))) := Lib.hid (by
            have h := Go.Joins.ownsRow_le HO3.out (grown_trans HG.out HGo.out).size
            rw [HTL.out, HDL.out, show 0 + q + [(⟨xg, xk, xf, xt⟩ : An)].length + (j - q) = j + 1 by simp; omega] at h
            rw [HSx.out, ← HCq.out, HXe.out]
            exact h)
          go_roundw
          case rel => exact ⟨j + 1, by omega, by go_num, grown_trans HG.out (grown_trans HGo.out HGc.out), HF.out⟩
          case measure => simp [intOf] <;> omega
        · obtain ⟨p, rfl⟩ : ∃ p, q = p + 1 := ⟨q - 1, by omega⟩
          clear hq0
          have hpj : (p : Int) < (j : Int) := by omega
          have hp0 : (0 : Int) < ((p + 1 : Nat) : Int) := by omega
          have hp1 : decide (((p + 1 : Nat) : Int) > 0) = true := decide_eq_true hp0
          have hps : wrap64 (((p + 1 : Nat) : Int) - 1) = (p : Int) := by unfold wrap64; omega
          obtain ⟨y0, y1, y2, y3⟩ := HX2.out _ HGo.out p (by omega)
          obtain rfl := HA2.out (by omega)
          have HPp := Lib.hid (HP0.out p)
          generalize (s.getD p an0).g = yg at *
          generalize (s.getD p an0).k = yk at *
          generalize (s.getD p an0).f = yf at *
          generalize (s.getD p an0).t = yt at *
          by_cases hlt : xg < yg
          · have HN : Hid (place x s j = place x s p) := Lib.hid (by rw [HPq.out, HPp.out, if_pos hlt])
            have hgt : decide (yg > xg) = true := decide_eq_true hlt
            go_wp2
            go_quiet (fail)
            go_wp2
            go_roundw
            case rel => exact ⟨p, by omega, by go_num, grown_drewN HGq.out _, HN.out⟩
            case measure => simp [intOf] <;> omega
          · have hgt : decide (yg > xg) = false := decide_eq_false hlt
            have hgt2 : ¬ yg > xg := hlt
            have HPe : Hid (place x s j = p + 1) := Lib.hid (by rw [HPq.out, HPp.out, if_neg hlt])
            have HTq := Lib.hid (HTo.out (p + 1) (by omega))
            have HDq := Lib.hid (HCut.out (p + 1) (by omega))
            have HCq := Lib.hid (HCi.out (p + 1) HPe.out)
            have htl := HTl.out (p + 1) (by omega)
            have hdl := HDl.out (p + 1) (by omega)
            go_wp2
            go_quiet (fail)
            have HTL := Lib.hid htl
            have HDL := Lib.hid hdl
            clear htl hdl
            go_wp2_with (first
              | (at_builtin; refine wpList_appN3 (by rfl) (.tmp 32) (.tmp 35) 28 (by rfl) wr.heap.size 42 (.agg #[.int .i64 0, .string ⟨#[]⟩, .int .i64 0, .int .i64 0]) 4 40 Tryz.underlying28 hIf rfl (by decide) (by decide) _ 0 [] (by rfl) (World.ownsRow_made _ #[] 0 (Nat.le_refl _) (Nat.zero_le _) (by simp)) _ _ _ (by rfl) (HTq.out _ (grown_alloc (grown_drewN HGo.out _) _)).1 (HTq.out _ HGo.out).2 (cellsA_one _) (by rw [HTL.out]; omega) (by simp) ?_; intro v1 x1 ho hg hb; have HO1 := Lib.hid ho; have HGa : Hid (wr.grownBy x1 none) := Lib.hid (grown_forget (grown_alloc (grown_drewN (grown_refl _ _) _) _) (Nat.le_refl _) hg); have HBa := Lib.hid (hold_b3 HB5.out HGa.out); clear ho hg hb)
              | (refine wpList_load_row (by rfl) 42 (.tmp 5) (by rfl) wo.heap.size (by rfl) 42 #[.int .i64 xg, .string xk, .int .i64 xf, .int .i64 xt] (0, 0) _ HBa.out Tryz.underlying42 rfl hI ?_)
              | (at_builtin; refine wpList_appN3 (by rfl) (.tmp 37) (.tmp 39) 28 (by rfl) wr.heap.size 42 (.agg #[.int .i64 0, .string ⟨#[]⟩, .int .i64 0, .int .i64 0]) 4 40 Tryz.underlying28 hIf rfl (by decide) (by decide) _ _ _ (by rfl) (HO1.out.alloc _) _ _ _ (by rfl) (Ans.lit (x := ⟨xg, xk, xf, xt⟩) (alloc_at _ _)).1 (Whole0.some _ _ _) (cellsA_one _) (by rw [HTL.out]; simp; omega) (by have := HGa.out.size; rw [alloc_size]; omega) ?_; intro v2 x2 ho hg hb; have HO2 := Lib.hid ho; have HGb : Hid (wr.grownBy x2 none) := Lib.hid (grown_own (grown_alloc HGa.out _) (HO1.out.alloc _) (Nat.le_refl _) hg); clear ho hg hb)
              | (at_builtin; refine wpList_appN3 (by rfl) (.tmp 41) (.tmp 44) 28 (by rfl) wr.heap.size 42 (.agg #[.int .i64 0, .string ⟨#[]⟩, .int .i64 0, .int .i64 0]) 4 40 Tryz.underlying28 hIf rfl (by decide) (by decide) _ _ _ (by rfl) HO2.out _ _ _ (by rfl) (HDq.out _ (grown_trans HGo.out HGb.out)).1 (HDq.out _ HGo.out).2 (cellsA_one _) (by rw [HTL.out, HDL.out]; simp; omega) HGb.out.size ?_; intro v3 x3 ho hg hb; have HO3 := Lib.hid ho; have HGc : Hid (wr.grownBy x3 none) := Lib.hid (grown_own HGb.out HO2.out (Nat.le_refl _) hg); clear ho hg hb))
            have HF : Hid (x3.ownsRow w.heap.size 42 4 v3 (j + 1) (cellsA (srtN l (j + 1)))) := Lib.hid (by
              have h := Go.Joins.ownsRow_le HO3.out (grown_trans HG.out HGo.out).size
              rw [HTL.out, HDL.out, show 0 + (p + 1) + [(⟨xg, xk, xf, xt⟩ : An)].length + (j - (p + 1)) = j + 1 by simp; omega] at h
              rw [HSx.out, ← HCq.out, HXe.out]
              exact h)
            go_roundw
            case rel => exact ⟨j + 1, by omega, by go_num, grown_trans HG.out (grown_trans HGo.out HGc.out), HF.out⟩
            case measure => simp [intOf] <;> omega
    · obtain rfl : j = n := by omega
      rw [HAl.out] at HO
      clear hO hG
      go_wp2
      go_ret
      exact ⟨_, rfl, HO.out, HG.out⟩
end Go.Proofs.YtihioekepflpiaaGreatDoor
namespace Go.Proofs.YtihioekepflpiaaGreatDoor
open Go.RowKit Bu
theorem own_emptyB {w : World} {base g : Nat} {e : TypeId} {sz : Nat} (h : w.heap[g]? = some (.cells #[] e (0, 0))) (hb : base ≤ g) : w.ownsRow base e sz (.slice (some ⟨g, 0, none⟩) 0 0) 0 [] :=
  ⟨by simp, .inr ⟨g, 0, #[], rfl, hb, h, Nat.le_refl _, Nat.zero_le _, by simp, by simp⟩⟩
/-- What a call that answers a bundle and the error's number leaves. -/
def BdN (R : Nat × Bd) (w : World) (e : Ending) (w' : World) : Prop := ∃ p, e = .returned (.tuple #[.agg #[.int .i64 R.2.v, .string R.2.sp, p], .int .i64 R.1]) ∧ Ans w' p R.2.l ∧ Fits p ∧ w.grownBy w' none
theorem Fits.nil : Fits (.slice none 0 0) := fun a n c e => by cases e; exact Nat.le_refl _
theorem refNextB_out (v : Int) (sp : ByteArray) (ao a : Value) (lo l : List An) (w : World) (hAo : Ans w ao lo) (hA : Ans w a l) (hF : Fits a) (hl : l.length ≤ 2000) (hk : ∀ x ∈ l, x.k.size ≤ 1000) (hsp : sp.size ≤ 1000) (hv : -9223372036854775808 ≤ v) :
    Calls Tryz.prog 25 #[.agg #[.int .i64 v, .string sp, ao], a] w (BdN (next ⟨v, sp, lo⟩ l) w) := by
  refine (refNextB_any v sp ao a lo l w hAo hA hl hk hsp hv).mono ?_
  rintro e w' ⟨rfl, hg⟩
  unfold nextN next BdN
  have e1 : right (nxt ⟨v, sp, lo⟩ l) = right ⟨v + 1, sp, l⟩ := rfl
  rw [e1]
  cases right ⟨v + 1, sp, l⟩ with
  | true => exact ⟨a, rfl, hA.grown hg, hF, hg⟩
  | false => exact ⟨.slice none 0 0, rfl, Ans.nil _, Fits.nil, hg⟩
theorem any_qW {l : List An} {x : An} {j : Nat} (hj : j < l.length) (h : qW x (l.getD j an0) = true) (v : Int) (sp : ByteArray) : withA ⟨v, sp, l⟩ x = (19, bd0) := by
  have hc : clash ⟨v, sp, l⟩ x = true := by
    unfold clash
    rw [List.any_eq_true]
    refine ⟨l.getD j an0, ?_, h⟩
    rw [List.getD_eq_getElem?_getD, List.getElem?_eq_getElem hj]
    exact List.getElem_mem _
  unfold withA
  rw [if_pos hc]
theorem none_qW {l : List An} {x : An} (h : ∀ j, j < l.length → qW x (l.getD j an0) = false) (v : Int) (sp : ByteArray) : withA ⟨v, sp, l⟩ x = next ⟨v, sp, l⟩ (srt (l ++ [x])) := by
  have hc : ¬ clash ⟨v, sp, l⟩ x = true := by
    unfold clash
    rw [List.any_eq_true]
    rintro ⟨y, hy, hq⟩
    obtain ⟨i, hi, rfl⟩ := List.mem_iff_getElem.1 hy
    have := h i hi
    rw [List.getD_eq_getElem?_getD, List.getElem?_eq_getElem hi] at this
    replace this : (decide (l[i].g = x.g) || decide (l[i].k = x.k)) = false := this
    replace hq : (decide (l[i].g = x.g) || decide (l[i].k = x.k)) = true := hq
    rw [this] at hq
    cases hq
  unfold withA
  rw [if_neg hc]
theorem srt_len (l : List An) : (srt l).length = l.length := (srt_perm l).length_eq
theorem srt_mem {l : List An} {P : An → Prop} (h : ∀ x ∈ l, P x) : ∀ x ∈ srt l, P x := fun x hx => h x ((srt_perm l).mem_iff.1 hx)
theorem set3_far {w : World} {b k : Nat} {x' y' z' : Value} {o : Obj} (h : w.heap[k]? = some o) (hne : k ≠ b) : (((w.setCell ⟨b, 0, none⟩ x').setCell ⟨b, 1, none⟩ y').setCell ⟨b, 2, none⟩ z').heap[k]? = some o := by
  rw [Below.heap_setCell _ _ _ _ hne, Below.heap_setCell _ _ _ _ hne, Below.heap_setCell _ _ _ _ hne]
  exact h
/-- A row of anchors is no bundle: it stays where a bundle is stored. -/
theorem Ans.set3 {w : World} {b : Nat} {x y z x' y' z' : Value} {t : TypeId} {p : Value} {l : List An} (h : Ans w p l) (hb : w.heap[b]? = some (.cells #[x, y, z] t (0, 0))) : Ans (((w.setCell ⟨b, 0, none⟩ x').setCell ⟨b, 1, none⟩ y').setCell ⟨b, 2, none⟩ z') p l := by
  obtain ⟨⟨h1, a, g, o, c, rfl, h2, h3⟩, h0⟩ := h
  refine ⟨⟨h1, a, g, o, c, rfl, fun hp => ⟨(h2 hp).1, by simpa [World.setCell] using (h2 hp).2⟩, fun j v hj => ?_⟩, h0⟩
  have hp : 0 < l.length := by
    rcases Nat.eq_zero_or_pos l.length with h9 | h9
    · rw [List.length_eq_zero_iff.1 h9] at hj; cases hj
    · exact h9
  have hne : g ≠ b := fun e => by
    subst e
    have h5 := h3 _ _ (cellsA_at l 0 hp).2.2.2
    rw [World.cell?] at h5
    simp [hb] at h5
  rw [World.cell?_of_block (w := w) (by rw [Below.heap_setCell _ _ _ _ hne, Below.heap_setCell _ _ _ _ hne, Below.heap_setCell _ _ _ _ hne])]
  exact h3 j v hj
set_option maxRecDepth 100000 in
set_option maxHeartbeats 16000000 in
theorem refWithB_any (v : Int) (sp : ByteArray) (a : Value) (l : List An) (x : An) (w : World) (hA : Ans w a l) (hl : l.length ≤ 1000) (hk : ∀ x ∈ l, x.k.size ≤ 1000) (hkx : x.k.size ≤ 1000) (hsp : sp.size ≤ 1000) (hv : -9223372036854775808 ≤ v) :
    Calls Tryz.prog 9 #[.agg #[.int .i64 v, .string sp, a], x.val] w (BdN (withA ⟨v, sp, l⟩ x) w) := by
  have hI := rbd_info
  have hIf := ran_full
  obtain ⟨xg, xk, xf, xt⟩ := x
  have hv0 : An.val ⟨xg, xk, xf, xt⟩ = .agg #[.int .i64 xg, .string xk, .int .i64 xf, .int .i64 xt] := rfl
  rw [hv0]
  have HQ : Hid (∀ j, qW ⟨xg, xk, xf, xt⟩ (l.getD j an0) = (decide ((l.getD j an0).g = xg) || decide ((l.getD j an0).k = xk))) := Lib.hid (fun j => rfl)
  have HHit := Lib.hid (fun j (hj : j < l.length) h => any_qW (x := ⟨xg, xk, xf, xt⟩) hj h v sp)
  have HMis := Lib.hid (fun h => none_qW (l := l) (x := ⟨xg, xk, xf, xt⟩) h v sp)
  obtain ⟨R, hR⟩ : ∃ R, R = withA ⟨v, sp, l⟩ ⟨xg, xk, xf, xt⟩ := ⟨_, rfl⟩
  rw [← hR] at HHit HMis ⊢
  obtain ⟨w1, hw1⟩ : ∃ w1, w1 = ((w.alloc (.cells #[.int .i64 v, .string sp, a] 30)).alloc (.cells #[.int .i64 xg, .string xk, .int .i64 xf, .int .i64 xt] 42)).alloc (.cells #[.int .i64 0, .string ⟨#[]⟩, .slice none 0 0] 30) := ⟨_, rfl⟩
  have hg1 : w.grownBy w1 none := by rw [hw1]; exact grown_alloc (grown_alloc (World.grownBy_alloc _ _ _) _) _
  have b0 : w1.heap[w.heap.size]? = some (.cells #[.int .i64 v, .string sp, a] 30 (0, 0)) := by rw [hw1]; exact alloc_keep (alloc2_old _ _ _)
  have b1 : w1.heap[w.heap.size + 1]? = some (.cells #[.int .i64 xg, .string xk, .int .i64 xf, .int .i64 xt] 42 (0, 0)) := by rw [hw1]; exact alloc_keep (alloc2_new _ _ _)
  have b2 : w1.heap[w.heap.size + 1 + 1]? = some (.cells #[.int .i64 0, .string ⟨#[]⟩, .slice none 0 0] 30 (0, 0)) := by
    rw [hw1]
    have := alloc_at ((w.alloc (.cells #[.int .i64 v, .string sp, a] 30)).alloc (.cells #[.int .i64 xg, .string xk, .int .i64 xf, .int .i64 xt] 42)) (.cells #[.int .i64 0, .string ⟨#[]⟩, .slice none 0 0] 30)
    rw [alloc_size, alloc_size] at this; exact this
  have HAa := Lib.hid (fun W (hW : w.grownBy W none) => hA.grown hW)
  have hlk : ∀ y ∈ l ++ [(⟨xg, xk, xf, xt⟩ : An)], y.k.size ≤ 1000 := fun y hy => by
    rcases List.mem_append.1 hy with h | h
    · exact hk y h
    · rw [List.mem_singleton.1 h]; exact hkx
  have HSo := Lib.hid (fun W u (hu : W.ownsRow 0 42 4 u (l.length + 1) (cellsA l ++ cellsA [(⟨xg, xk, xf, xt⟩ : An)])) => refSortedB_any u (l ++ [⟨xg, xk, xf, xt⟩]) W (by rw [← cellsA_app] at hu; exact (Ans.own hu).2) (by rw [List.length_append]; simp; omega))
  have HNx := Lib.hid (fun W u (hW : w.grownBy W none) (hu : Ans W u (srt (l ++ [⟨xg, xk, xf, xt⟩]))) (hf : Fits u) => refNextB_out v sp a u l (srt (l ++ [⟨xg, xk, xf, xt⟩])) W (hA.grown hW) hu hf (by rw [srt_len, List.length_append]; simp; omega) (srt_mem hlk) hsp hv)
  have HSl : Hid (∀ (W : World) (B : Nat) (u : Value), W.ownsRow B 42 4 u (l ++ [(⟨xg, xk, xf, xt⟩ : An)]).length (cellsA (srt (l ++ [⟨xg, xk, xf, xt⟩]))) → Ans W u (srt (l ++ [⟨xg, xk, xf, xt⟩])) ∧ Fits u) := Lib.hid (fun W B u hu => ⟨(Ans.own hu).2, Fits.own hu⟩)
  obtain ⟨a1, g1, s1, c1, rfl, ha1, _, hx1⟩ := (hA.grown hg1).form
  have HX1 := Lib.hid (Ans.cells_at ha1 hx1)
  obtain ⟨N, hN⟩ : ∃ N, N = l.length := ⟨_, rfl⟩
  have HA1 : Hid (0 < N → a1 = some ⟨g1, s1, none⟩) := Lib.hid (fun h => (ha1 (by omega)).1)
  have HLn : Hid (N = l.length) := Lib.hid hN
  rw [← hN] at HX1 HHit HMis b0 hw1 HAa HNx hl ⊢
  have HW1 := Lib.hid hw1
  have HB0 := Lib.hid b0
  have HB1 := Lib.hid b1
  have HB2 := Lib.hid b2
  have HG1 := Lib.hid hg1
  have d0 := cell_blk b0 2 rfl
  rw [hw1] at d0
  clear hA hk hkx hsp hw1 hg1 b0 b1 b2 ha1 hx1 hN hlk hR hv0 hv
  go_enter Tryz.func9, Tryz.ntmps9
  go_wp2
  rw [← HW1.out]
  go_loopw [11] (fun i wr => ∃ j : Nat, j ≤ N ∧ i = .int .i64 (j : Int) ∧ w1.grownBy wr none ∧ ∀ i, i < j → qW ⟨xg, xk, xf, xt⟩ (l.getD i an0) = false) (fun i _ => N - (intOf i).toNat)
  case atStart => exact ⟨0, by omega, rfl, grown_refl _ _, fun j hj => absurd hj (Nat.not_lt_zero _)⟩
  case round =>
    obtain ⟨j, hj, rfl, hg, h0⟩ := hrel
    have HG := Lib.hid hg
    have H0 := Lib.hid h0
    have HB1r := Lib.hid (hold_b3 HB1.out hg)
    have HZ := Lib.hid (hold_b3 HB2.out hg)
    clear hg h0
    by_cases hjN : j < N
    · obtain ⟨x0, x1, x2, x3⟩ := HX1.out wr HG.out j hjN
      obtain rfl := HA1.out (by omega)
      have HHj : Hid ((decide ((l.getD j an0).g = xg) || decide ((l.getD j an0).k = xk)) = true → R = (19, bd0)) := Lib.hid (fun h => HHit.out j hjN (by rw [HQ.out]; exact h))
      have HMj : Hid ((decide ((l.getD j an0).g = xg) || decide ((l.getD j an0).k = xk)) = false → ∀ i, i < j + 1 → qW ⟨xg, xk, xf, xt⟩ (l.getD i an0) = false) := Lib.hid (fun he i hi => by
        rcases Nat.lt_or_ge i j with h | h
        · exact H0.out i h
        · obtain rfl : i = j := by omega
          rw [HQ.out]; exact he)
      generalize (l.getD j an0).g = p1 at *
      generalize (l.getD j an0).k = p2 at *
      generalize (l.getD j an0).f = p3 at *
      generalize (l.getD j an0).t = p4 at *
      have HZn := Lib.hid (alloc_keep (o := .cells #[.int .i64 p1, .string p2, .int .i64 p3, .int .i64 p4] 42) HZ.out)
      have HGn := Lib.hid (grown_alloc HG.out (.cells #[.int .i64 p1, .string p2, .int .i64 p3, .int .i64 p4] 42))
      have h1n := alloc_keep (o := .cells #[.int .i64 p1, .string p2, .int .i64 p3, .int .i64 p4] 42) HB1r.out
      have e0 := cell_blk h1n 0 rfl
      have e1 := cell_blk h1n 1 rfl
      have y0 := free_blk HZn.out 0
      have y1 := free_blk HZn.out 1
      have y2 := free_blk HZn.out 2
      have z0 := cell_blk HZn.out 0 rfl
      have z1 := cell_blk HZn.out 1 rfl
      have z2 := cell_blk HZn.out 2 rfl
      clear h1n
      by_cases hq : (decide (p1 = xg) || decide (p2 = xk)) = true
      · have HRR := Lib.hid (HHj.out hq)
        have HFin : Hid (∀ e w', e = .returned (.tuple #[.agg #[.int .i64 0, .string ⟨#[]⟩, .slice none 0 0], .int .i64 19]) → w.grownBy w' none → BdN R w e w') := Lib.hid (fun e w' he hg => by rw [HRR.out, he]; exact ⟨.slice none 0 0, rfl, Ans.nil _, Fits.nil, hg⟩)
        clear HHj HMj HRR
        by_cases hg : p1 = xg
        · subst hg
          go_wp2
          refine bodyPost_ret (v := .tuple #[.agg #[.int .i64 0, .string ⟨#[]⟩, .slice none 0 0], .int .i64 19]) ?_ rfl (HFin.out _ _ rfl (grown_set (grown_set (grown_set (grown_trans HG1.out HGn.out) (.inl (show w.heap.size ≤ w.heap.size + 1 + 1 from by omega)) _) (.inl (show w.heap.size ≤ w.heap.size + 1 + 1 from by omega)) _) (.inl (show w.heap.size ≤ w.heap.size + 1 + 1 from by omega)) _))
          exact results_rowT Tryz.results9 _ _ (w.heap.size + 1 + 1) _ _ (0, 0) _ _ rfl (set3 HZn.out) Tryz.underlying30 rfl hI rfl
        · have hgb : (p1 == xg) = false := by rw [beq_eq_false_iff_ne]; exact hg
          have hk2 : p2 = xk := by simpa [hg] using hq
          subst hk2
          go_wp2
          refine bodyPost_ret (v := .tuple #[.agg #[.int .i64 0, .string ⟨#[]⟩, .slice none 0 0], .int .i64 19]) ?_ rfl (HFin.out _ _ rfl (grown_set (grown_set (grown_set (grown_trans HG1.out HGn.out) (.inl (show w.heap.size ≤ w.heap.size + 1 + 1 from by omega)) _) (.inl (show w.heap.size ≤ w.heap.size + 1 + 1 from by omega)) _) (.inl (show w.heap.size ≤ w.heap.size + 1 + 1 from by omega)) _))
          exact results_rowT Tryz.results9 _ _ (w.heap.size + 1 + 1) _ _ (0, 0) _ _ rfl (set3 HZn.out) Tryz.underlying30 rfl hI rfl
      · have hq2 : (decide (p1 = xg) || decide (p2 = xk)) = false := by simpa using hq
        have HN2 := Lib.hid (HMj.out hq2)
        have hgn : ¬ p1 = xg := fun h => hq (by simp [h])
        have hgb : (p1 == xg) = false := by rw [beq_eq_false_iff_ne]; exact hgn
        have hkn : ¬ p2 = xk := fun h => hq (by simp [h])
        have hk2 : ¬ p2.toList = xk.toList := fun h => hkn (strT_inj h)
        have hkb : (p2.toList == xk.toList) = false := by rw [beq_str, decide_eq_false hkn]
        clear hq hq2 HHj HMj
        go_wp2
        go_roundw
        case rel => exact ⟨j + 1, by omega, by go_num, HGn.out, HN2.out⟩
        case measure => simp [intOf] <;> omega
    · obtain rfl : j = N := by omega
      have hRn := HMis.out H0.out
      have HRn := Lib.hid hRn
      clear hRn
      have HS : Hid (∀ W, wr.grownBy W none → W.cell? ⟨w.heap.size, 0, none⟩ = some (.int .i64 v) ∧ W.cell? ⟨w.heap.size, 1, none⟩ = some (.string sp) ∧ W.cell? ⟨w.heap.size, 2, none⟩ = some (.slice a1 j c1) ∧ W.cell? ⟨w.heap.size + 1, 0, none⟩ = some (.int .i64 xg) ∧ W.cell? ⟨w.heap.size + 1, 1, none⟩ = some (.string xk) ∧ W.cell? ⟨w.heap.size + 1, 2, none⟩ = some (.int .i64 xf) ∧ W.cell? ⟨w.heap.size + 1, 3, none⟩ = some (.int .i64 xt)) := Lib.hid (fun W hW => by
        have k0 := hold_b3 HB0.out (grown_trans HG.out hW)
        have k1 := hold_b3 HB1.out (grown_trans HG.out hW)
        exact ⟨cell_blk k0 0 rfl, cell_blk k0 1 rfl, cell_blk k0 2 rfl, cell_blk k1 0 rfl, cell_blk k1 1 rfl, cell_blk k1 2 rfl, cell_blk k1 3 rfl⟩)
      have HSf : Hid (∀ W q0 q1 q2, wr.grownBy W none → (((W.setCell ⟨w.heap.size + 1 + 1, 0, none⟩ q0).setCell ⟨w.heap.size + 1 + 1, 1, none⟩ q1).setCell ⟨w.heap.size + 1 + 1, 2, none⟩ q2).cell? ⟨w.heap.size, 0, none⟩ = some (.int .i64 v) ∧ (((W.setCell ⟨w.heap.size + 1 + 1, 0, none⟩ q0).setCell ⟨w.heap.size + 1 + 1, 1, none⟩ q1).setCell ⟨w.heap.size + 1 + 1, 2, none⟩ q2).cell? ⟨w.heap.size, 1, none⟩ = some (.string sp) ∧ (((W.setCell ⟨w.heap.size + 1 + 1, 0, none⟩ q0).setCell ⟨w.heap.size + 1 + 1, 1, none⟩ q1).setCell ⟨w.heap.size + 1 + 1, 2, none⟩ q2).cell? ⟨w.heap.size, 2, none⟩ = some (.slice a1 j c1) ∧ (((W.setCell ⟨w.heap.size + 1 + 1, 0, none⟩ q0).setCell ⟨w.heap.size + 1 + 1, 1, none⟩ q1).setCell ⟨w.heap.size + 1 + 1, 2, none⟩ q2).cell? ⟨w.heap.size + 1, 0, none⟩ = some (.int .i64 xg) ∧ (((W.setCell ⟨w.heap.size + 1 + 1, 0, none⟩ q0).setCell ⟨w.heap.size + 1 + 1, 1, none⟩ q1).setCell ⟨w.heap.size + 1 + 1, 2, none⟩ q2).cell? ⟨w.heap.size + 1, 1, none⟩ = some (.string xk) ∧ (((W.setCell ⟨w.heap.size + 1 + 1, 0, none⟩ q0).setCell ⟨w.heap.size + 1 + 1, 1, none⟩ q1).setCell ⟨w.heap.size + 1 + 1, 2, none⟩ q2).cell? ⟨w.heap.size + 1, 2, none⟩ = some (.int .i64 xf) ∧ (((W.setCell ⟨w.heap.size + 1 + 1, 0, none⟩ q0).setCell ⟨w.heap.size + 1 + 1, 1, none⟩ q1).setCell ⟨w.heap.size + 1 + 1, 2, none⟩ q2).cell? ⟨w.heap.size + 1, 3, none⟩ = some (.int .i64 xt)) := Lib.hid (fun W q0 q1 q2 hW => by
        have k0 := set3_far (b := w.heap.size + 1 + 1) (x' := q0) (y' := q1) (z' := q2) (hold_b3 HB0.out (grown_trans HG.out hW)) (by omega)
        have k1 := set3_far (b := w.heap.size + 1 + 1) (x' := q0) (y' := q1) (z' := q2) (hold_b3 HB1.out (grown_trans HG.out hW)) (by omega)
        exact ⟨cell_blk k0 0 rfl, cell_blk k0 1 rfl, cell_blk k0 2 rfl, cell_blk k1 0 rfl, cell_blk k1 1 rfl, cell_blk k1 2 rfl, cell_blk k1 3 rfl⟩)
      have HAw := Lib.hid (fun W (hW : wr.grownBy W none) => HAa.out W (grown_trans HG1.out (grown_trans HG.out hW)))
      go_wp2
      go_region_held3 (fun w' => w'.cell? ⟨w.heap.size, 0, none⟩ = some (.int .i64 v) ∧ w'.cell? ⟨w.heap.size, 1, none⟩ = some (.string sp) ∧ w'.cell? ⟨w.heap.size, 2, none⟩ = some (.slice a1 j c1) ∧ w'.cell? ⟨w.heap.size + 1, 0, none⟩ = some (.int .i64 xg) ∧ w'.cell? ⟨w.heap.size + 1, 1, none⟩ = some (.string xk) ∧ w'.cell? ⟨w.heap.size + 1, 2, none⟩ = some (.int .i64 xf) ∧ w'.cell? ⟨w.heap.size + 1, 3, none⟩ = some (.int .i64 xt))
        (first
          | exact HS.out _ (grown_drewN (grown_refl _ _) 1)
          | exact HS.out _ (grown_drewN (grown_alloc (grown_refl _ _) _) 1)
          | exact HS.out _ (grown_drewN (grown_alloc (grown_alloc (grown_refl _ _) _) _) 1)
          | exact HS.out _ (grown_alloc (grown_drewN (grown_refl _ _) 1) _)
          | exact HS.out _ (grown_alloc (grown_alloc (grown_drewN (grown_refl _ _) 1) _) _)
          | exact HS.out _ K38.out
          | exact HS.out _ K37.out
          | exact HS.out _ K36.out
          | exact HS.out _ (grown_alloc K33.out _)
          | exact HS.out _ K33.out
          | exact HSf.out _ _ _ _ K38.out)
        ((first
          | (refine step_first (w0 := wr) (by rfl) (.tmp 30) (.tmp 32) 28 (by rfl) 42 _ 4 40 Tryz.underlying28 hIf rfl (by decide) (by decide) _ (by rfl) (by first | exact grown_drewN (grown_refl _ _) 1 | exact grown_alloc (grown_drewN (grown_refl _ _) 1) _ | exact grown_alloc (grown_alloc (grown_drewN (grown_refl _ _) 1) _) _ | exact grown_drewN (grown_alloc (grown_refl _ _) _) 1 | exact grown_drewN (grown_alloc (grown_alloc (grown_refl _ _) _) _) 1) (by first | exact own_emptyB (alloc_at _ _) (Nat.le_refl _) | exact own_emptyB (alloc2_old _ _ _) (Nat.le_refl _) | exact own_emptyB (alloc2_new _ _ _) (Nat.le_succ _)) _ l.length (cellsA l) (by rfl) (HAw.out _ (by first | exact grown_drewN (grown_refl _ _) 1 | exact grown_alloc (grown_drewN (grown_refl _ _) 1) _ | exact grown_alloc (grown_alloc (grown_drewN (grown_refl _ _) 1) _) _ | exact grown_drewN (grown_alloc (grown_refl _ _) _) 1 | exact grown_drewN (grown_alloc (grown_alloc (grown_refl _ _) _) _) 1)).1 (HAw.out _ (grown_refl _ _)).2 (cellsA_one _) (by rw [← HLn.out]; omega) ?_; intro v33 w33 ho hg hk; have O33 := Lib.hid ho; have K33 := Lib.hid hg; have Q33 := Lib.hid hk; clear ho hg hk)
          | (refine step_second (w0 := wr) (by rfl) (.tmp 33) (.tmp 35) 28 (by rfl) 42 _ 4 40 Tryz.underlying28 hIf rfl (by decide) (by decide) v33 l.length (cellsA l) (by rfl) (grown_alloc K33.out _) (O33.out.alloc _) _ 1 (cellsA [⟨xg, xk, xf, xt⟩]) (by rfl) (Ans.lit (x := ⟨xg, xk, xf, xt⟩) (alloc_at _ _)).1 (Whole0.some _ _ _) (cellsA_one _) (by rw [← HLn.out]; omega) ?_; intro v36 w36 ho hg; have O36 := Lib.hid ho; have K36 := Lib.hid hg; clear ho hg)
          | (refine step_second (w0 := wr) (by rfl) (.tmp 33) (.tmp 35) 28 (by rfl) 42 _ 4 40 Tryz.underlying28 hIf rfl (by decide) (by decide) v33 l.length (cellsA l) (by rfl) K33.out O33.out _ 1 (cellsA [⟨xg, xk, xf, xt⟩]) (by rfl) (Ans.lit (x := ⟨xg, xk, xf, xt⟩) (by first | exact Q33.out _ _ (by show wr.heap.size ≠ wr.heap.size + 1; omega) (alloc2_old _ _ _) | exact Q33.out _ _ (by show wr.heap.size + 1 ≠ wr.heap.size; omega) (alloc2_new _ _ _))).1 (Whole0.some _ _ _) (cellsA_one _) (by rw [← HLn.out]; omega) ?_; intro v36 w36 ho hg; have O36 := Lib.hid ho; have K36 := Lib.hid hg; clear ho hg)
          | (go_at_call 26; refine (HSo.out _ _ (Go.Joins.ownsRow_le O36.out (Nat.zero_le _))).mono ?_; rintro e w37 ⟨v37, rfl, ho, hg⟩; have hs := HSl.out _ _ _ ho; have A37 := Lib.hid hs.1; have F37 := Lib.hid hs.2; have K37 := Lib.hid (grown_trans K36.out hg); clear ho hg hs)
          | (go_at_call 25; refine (HNx.out _ _ (grown_trans HG1.out (grown_trans HG.out K37.out)) A37.out F37.out).mono ?_; rintro e w38 ⟨v38, rfl, ha, hf, hg⟩; obtain ⟨a38, _, _, c38, rfl, -, -, -⟩ := ha.form; have A38 := Lib.hid ha; have F38 := Lib.hid hf; have K38 := Lib.hid (grown_trans K37.out hg); have HZ8 := Lib.hid (hold_b3 HZ.out K38.out); have y0 := free_blk HZ8.out 0; have y1 := free_blk HZ8.out 1; have y2 := free_blk HZ8.out 2; have z0 := cell_blk HZ8.out 0 rfl; have z1 := cell_blk HZ8.out 1 rfl; have z2 := cell_blk HZ8.out 2 rfl; clear ha hf hg)))
      all_goals
        go_wp2
        refine bodyPost_ret (v := .tuple #[.agg #[.int .i64 _, .string _, .slice a38 _ c38], .int .i64 _]) ?_ rfl ⟨_, by rw [HRn.out], by rw [HRn.out]; exact (A38.out.set3 HZ8.out), F38.out, grown_set (grown_set (grown_set (grown_trans HG1.out (grown_trans HG.out K38.out)) (.inl (show w.heap.size ≤ w.heap.size + 1 + 1 from by omega)) _) (.inl (show w.heap.size ≤ w.heap.size + 1 + 1 from by omega)) _) (.inl (show w.heap.size ≤ w.heap.size + 1 + 1 from by omega)) _⟩
        exact results_rowT Tryz.results9 _ _ (w.heap.size + 1 + 1) _ _ (0, 0) _ _ rfl (set3 HZ8.out) Tryz.underlying30 rfl hI rfl
end Go.Proofs.YtihioekepflpiaaGreatDoor
namespace Go.Proofs.YtihioekepflpiaaGreatDoor
open Go.RowKit Bu
theorem firstG_at : ∀ {l : List An} {g : Int} {j : Nat}, j < l.length → (∀ i, i < j → (l.getD i an0).g ≠ g) → (l.getD j an0).g = g → firstG g l = some j
  | [], _, j, h, _, _ => absurd h (Nat.not_lt_zero _)
  | x :: r, g, 0, _, _, h => by rw [firstG, if_pos (by simpa using h)]
  | x :: r, g, j + 1, hj, hi, h => by
    rw [firstG, if_neg (by have := hi 0 (by omega); simpa using this), firstG_at (j := j) (by simpa using hj) (fun i hij => by simpa using hi (i + 1) (by omega)) (by simpa using h)]
    rfl
theorem firstG_none : ∀ {l : List An} {g : Int}, (∀ i, i < l.length → (l.getD i an0).g ≠ g) → firstG g l = none
  | [], _, _ => rfl
  | x :: r, g, h => by
    rw [firstG, if_neg (by have := h 0 (by simp); simpa using this), firstG_none (fun i hi => by simpa using h (i + 1) (by simpa using hi))]
    rfl
theorem wo_at {l : List An} {g : Int} {j : Nat} (hj : j < l.length) (hi : ∀ i, i < j → (l.getD i an0).g ≠ g) (h : (l.getD j an0).g = g) (v : Int) (sp : ByteArray) : without ⟨v, sp, l⟩ g = next ⟨v, sp, l⟩ (l.take j ++ l.drop (j + 1)) := by
  unfold without
  rw [firstG_at hj hi h]
theorem wo_none {l : List An} {g : Int} (h : ∀ i, i < l.length → (l.getD i an0).g ≠ g) (v : Int) (sp : ByteArray) : without ⟨v, sp, l⟩ g = (18, bd0) := by
  unfold without
  rw [firstG_none h]
set_option maxRecDepth 100000 in
set_option maxHeartbeats 16000000 in
theorem refWithoutB_any (v : Int) (sp : ByteArray) (a : Value) (l : List An) (g : Int) (w : World) (hA : Ans w a l) (hF : Fits a) (hl : l.length ≤ 1000) (hk : ∀ x ∈ l, x.k.size ≤ 1000) (hsp : sp.size ≤ 1000) (hv : -9223372036854775808 ≤ v) :
    Calls Tryz.prog 11 #[.agg #[.int .i64 v, .string sp, a], .int .i64 g] w (BdN (without ⟨v, sp, l⟩ g) w) := by
  have hI := rbd_info
  have hIf := ran_full
  have HHit := Lib.hid (fun j (hj : j < l.length) hi h => wo_at (g := g) hj hi h v sp)
  have HMis := Lib.hid (fun h => wo_none (l := l) (g := g) h v sp)
  obtain ⟨R, hR⟩ : ∃ R, R = without ⟨v, sp, l⟩ g := ⟨_, rfl⟩
  rw [← hR] at HHit HMis ⊢
  obtain ⟨w1, hw1⟩ : ∃ w1, w1 = (w.alloc (.cells #[.int .i64 v, .string sp, a] 30)).alloc (.cells #[.int .i64 0, .string ⟨#[]⟩, .slice none 0 0] 30) := ⟨_, rfl⟩
  have hg1 : w.grownBy w1 none := by rw [hw1]; exact grown_alloc (World.grownBy_alloc _ _ _) _
  have b0 : w1.heap[w.heap.size]? = some (.cells #[.int .i64 v, .string sp, a] 30 (0, 0)) := by rw [hw1]; exact alloc2_old _ _ _
  have b2 : w1.heap[w.heap.size + 1]? = some (.cells #[.int .i64 0, .string ⟨#[]⟩, .slice none 0 0] 30 (0, 0)) := by rw [hw1]; exact alloc2_new _ _ _
  have HNx := Lib.hid (fun W u j (hW : w.grownBy W none) (hu : Ans W u (l.take j ++ l.drop (j + 1))) (hf : Fits u) => refNextB_out v sp a u l (l.take j ++ l.drop (j + 1)) W (hA.grown hW) hu hf (by rw [List.length_append, List.length_take, List.length_drop]; omega) (fun x hx => by
    rcases List.mem_append.1 hx with h | h
    · exact hk x (List.mem_of_mem_take h)
    · exact hk x (List.mem_of_mem_drop h)) hsp hv)
  have HTl := Lib.hid (fun j (hj : j < l.length) => (show (l.take j).length = j by rw [List.length_take]; omega))
  have HDl := Lib.hid (fun j (hj : j < l.length) => (show (l.drop (j + 1)).length = l.length - (j + 1) by rw [List.length_drop]))
  have HAg := Lib.hid (fun W (hW : w1.grownBy W none) => hA.grown (grown_trans hg1 hW))
  obtain ⟨a1, g1, s1, c1, rfl, ha1, _, hx1⟩ := (hA.grown hg1).form
  have hc1 : l.length ≤ c1 := hF _ _ _ rfl
  have HTo := Lib.hid (fun j (hj : j < l.length) W (hW : w1.grownBy W none) => (HAg.out W hW).to j (by omega))
  have HFr := Lib.hid (fun j (hj : j < l.length) W (hW : w1.grownBy W none) => (HAg.out W hW).cut hc1 (j + 1) (by omega))
  have HX1 := Lib.hid (Ans.cells_at ha1 hx1)
  obtain ⟨N, hN⟩ : ∃ N, N = l.length := ⟨_, rfl⟩
  have HA1 : Hid (0 < N → a1 = some ⟨g1, s1, none⟩) := Lib.hid (fun h => (ha1 (by omega)).1)
  rw [← hN] at HX1 HHit HMis b0 hw1 hl HTl HDl HTo HFr hc1 HNx ⊢
  have HW1 := Lib.hid hw1
  have HB0 := Lib.hid b0
  have HB2 := Lib.hid b2
  have HG1 := Lib.hid hg1
  have d0 := cell_blk b0 2 rfl
  rw [hw1] at d0
  clear hA hF hk hsp hw1 hg1 b0 b2 ha1 hx1 hN hR hv HAg
  go_enter Tryz.func11, Tryz.ntmps11
  go_wp2
  rw [← HW1.out]
  go_loopw [11] (fun i wr => ∃ j : Nat, j ≤ N ∧ i = .int .i64 (j : Int) ∧ w1.grownBy wr none ∧ ∀ i, i < j → (l.getD i an0).g ≠ g) (fun i _ => N - (intOf i).toNat)
  case atStart => exact ⟨0, by omega, rfl, grown_refl _ _, fun j hj => absurd hj (Nat.not_lt_zero _)⟩
  case round =>
    obtain ⟨j, hj, rfl, hg, h0⟩ := hrel
    have HG := Lib.hid hg
    have H0 := Lib.hid h0
    have HZ := Lib.hid (hold_b3 HB2.out hg)
    clear hg h0
    by_cases hjN : j < N
    · obtain ⟨x0, x1, x2, x3⟩ := HX1.out wr HG.out j hjN
      obtain rfl := HA1.out (by omega)
      have HHj : Hid ((l.getD j an0).g = g → R = next ⟨v, sp, l⟩ (l.take j ++ l.drop (j + 1))) := Lib.hid (fun h => HHit.out j hjN H0.out h)
      have HMj : Hid ((l.getD j an0).g ≠ g → ∀ i, i < j + 1 → (l.getD i an0).g ≠ g) := Lib.hid (fun he i hi => by
        rcases Nat.lt_or_ge i j with h | h
        · exact H0.out i h
        · obtain rfl : i = j := by omega
          exact he)
      have HNj := Lib.hid (fun W u => HNx.out W u j)
      have HTj := Lib.hid (HTo.out j hjN)
      have HFj := Lib.hid (HFr.out j hjN)
      have HTlj := Lib.hid (HTl.out j hjN)
      have HDlj := Lib.hid (HDl.out j hjN)
      generalize (l.getD j an0).g = p1 at *
      generalize (l.getD j an0).k = p2 at *
      generalize (l.getD j an0).f = p3 at *
      generalize (l.getD j an0).t = p4 at *
      obtain ⟨w4, hw4⟩ : ∃ w4, w4 = wr.alloc (.cells #[.int .i64 p1, .string p2, .int .i64 p3, .int .i64 p4] 42) := ⟨_, rfl⟩
      have HZn : Hid (w4.heap[w.heap.size + 1]? = some (.cells #[.int .i64 0, .string ⟨#[]⟩, .slice none 0 0] 30 (0, 0))) := Lib.hid (by rw [hw4]; exact alloc_keep HZ.out)
      have HGn : Hid (w1.grownBy w4 none) := Lib.hid (by rw [hw4]; exact grown_alloc HG.out _)
      have HW4 := Lib.hid hw4
      clear hw4
      by_cases hq : p1 = g
      · subst hq
        have HRn := Lib.hid (HHj.out rfl)
        have hj1 : wrap64 ((j : Int) + 1) = (j : Int) + 1 := by unfold wrap64; omega
        have hj2 : (0 : Int) ≤ (j : Int) := by omega
        have hj3 : (j : Int) ≤ (c1 : Int) := by omega
        have hj4 : (0 : Int) ≤ (j : Int) + 1 := by omega
        have hj5 : (j : Int) + 1 ≤ (N : Int) := by omega
        have hj6 : ((j : Int) + 1).toNat = j + 1 := by omega
        have hj7 : IntKind.i64.wrap ((j : Int) + 1) = (j : Int) + 1 := by rw [IntKind.wrap_i64]; omega
        have HS : Hid (∀ W, w4.grownBy W none → W.cell? ⟨w.heap.size, 0, none⟩ = some (.int .i64 v) ∧ W.cell? ⟨w.heap.size, 1, none⟩ = some (.string sp) ∧ W.cell? ⟨w.heap.size, 2, none⟩ = some (.slice (some ⟨g1, s1, none⟩) N c1)) := Lib.hid (fun W hW => by
          have k0 := hold_b3 HB0.out (grown_trans HGn.out hW)
          exact ⟨cell_blk k0 0 rfl, cell_blk k0 1 rfl, cell_blk k0 2 rfl⟩)
        have HSf : Hid (∀ W q0 q1 q2, w4.grownBy W none → (((W.setCell ⟨w.heap.size + 1, 0, none⟩ q0).setCell ⟨w.heap.size + 1, 1, none⟩ q1).setCell ⟨w.heap.size + 1, 2, none⟩ q2).cell? ⟨w.heap.size, 0, none⟩ = some (.int .i64 v) ∧ (((W.setCell ⟨w.heap.size + 1, 0, none⟩ q0).setCell ⟨w.heap.size + 1, 1, none⟩ q1).setCell ⟨w.heap.size + 1, 2, none⟩ q2).cell? ⟨w.heap.size, 1, none⟩ = some (.string sp) ∧ (((W.setCell ⟨w.heap.size + 1, 0, none⟩ q0).setCell ⟨w.heap.size + 1, 1, none⟩ q1).setCell ⟨w.heap.size + 1, 2, none⟩ q2).cell? ⟨w.heap.size, 2, none⟩ = some (.slice (some ⟨g1, s1, none⟩) N c1)) := Lib.hid (fun W q0 q1 q2 hW => by
          have k0 := set3_far (b := w.heap.size + 1) (x' := q0) (y' := q1) (z' := q2) (hold_b3 HB0.out (grown_trans HGn.out hW)) (by omega)
          exact ⟨cell_blk k0 0 rfl, cell_blk k0 1 rfl, cell_blk k0 2 rfl⟩)
        go_wp2
        rw [← HW4.out]
        go_region_held3 (fun w' => w'.cell? ⟨w.heap.size, 0, none⟩ = some (.int .i64 v) ∧ w'.cell? ⟨w.heap.size, 1, none⟩ = some (.string sp) ∧ w'.cell? ⟨w.heap.size, 2, none⟩ = some (.slice (some ⟨g1, s1, none⟩) N c1))
          (first
            | exact HS.out _ (grown_drewN (grown_refl _ _) 1)
            | exact HS.out _ (grown_drewN (grown_alloc (grown_refl _ _) _) 1)
            | exact HS.out _ (grown_alloc (grown_drewN (grown_refl _ _) 1) _)
            | exact HS.out _ K38.out
            | exact HS.out _ K36.out
            | exact HS.out _ K33.out
            | exact HSf.out _ _ _ _ K38.out)
          ((first
            | (refine step_first (w0 := w4) (by rfl) (.tmp 21) (.tmp 25) 28 (by rfl) 42 _ 4 40 Tryz.underlying28 hIf rfl (by decide) (by decide) _ (by rfl) (by first | exact grown_alloc (grown_drewN (grown_refl _ _) 1) _ | exact grown_drewN (grown_alloc (grown_refl _ _) _) 1) (own_emptyB (alloc_at _ _) (Nat.le_refl _)) _ _ _ (by rfl) (HTj.out _ (grown_trans HGn.out (by first | exact grown_alloc (grown_drewN (grown_refl _ _) 1) _ | exact grown_drewN (grown_alloc (grown_refl _ _) _) 1))).1 (HTj.out _ HGn.out).2 (cellsA_one _) (by rw [HTlj.out]; omega) ?_; intro v33 w33 ho hg hk; have O33 := Lib.hid ho; have K33 := Lib.hid hg; clear ho hg hk)
            | (refine step_second (w0 := w4) (by rfl) (.tmp 26) (.tmp 31) 28 (by rfl) 42 _ 4 40 Tryz.underlying28 hIf rfl (by decide) (by decide) v33 _ _ (by rfl) K33.out O33.out _ _ _ (by rfl) (HFj.out _ (grown_trans HGn.out K33.out)).1 (HFj.out _ HGn.out).2 (cellsA_one _) (by rw [HTlj.out, HDlj.out]; omega) ?_; intro v36 w36 ho hg; rw [← cellsA_app] at ho; have O36 := Lib.hid ho; have K36 := Lib.hid hg; clear ho hg)
            | (go_at_call 25; refine (HNj.out _ _ (grown_trans HG1.out (grown_trans HGn.out K36.out)) (Ans.own O36.out).2 (Fits.own O36.out)).mono ?_; rintro e w38 ⟨v38, rfl, ha, hf, hg⟩; obtain ⟨a38, _, _, c38, rfl, -, -, -⟩ := ha.form; have A38 := Lib.hid ha; have F38 := Lib.hid hf; have K38 := Lib.hid (grown_trans K36.out hg); have HZ8 := Lib.hid (hold_b3 HZn.out K38.out); have y0 := free_blk HZ8.out 0; have y1 := free_blk HZ8.out 1; have y2 := free_blk HZ8.out 2; have z0 := cell_blk HZ8.out 0 rfl; have z1 := cell_blk HZ8.out 1 rfl; have z2 := cell_blk HZ8.out 2 rfl; clear ha hf hg)))
        all_goals
          go_wp2
          refine bodyPost_ret (v := .tuple #[.agg #[.int .i64 _, .string _, .slice a38 _ c38], .int .i64 _]) ?_ rfl ⟨_, by rw [HRn.out], by rw [HRn.out]; exact (A38.out.set3 HZ8.out), F38.out, grown_set (grown_set (grown_set (grown_trans HG1.out (grown_trans HGn.out K38.out)) (.inl (Nat.le_succ _)) _) (.inl (Nat.le_succ _)) _) (.inl (Nat.le_succ _)) _⟩
          exact results_rowT Tryz.results11 _ _ (w.heap.size + 1) _ _ (0, 0) _ _ rfl (set3 HZ8.out) Tryz.underlying30 rfl hI rfl
      · have hgb : (p1 == g) = false := by rw [beq_eq_false_iff_ne]; exact hq
        have HN2 := Lib.hid (HMj.out hq)
        go_wp2
        go_roundw
        case rel => exact ⟨j + 1, by omega, by go_num, by rw [← HW4.out]; exact HGn.out, HN2.out⟩
        case measure => simp [intOf] <;> omega
    · obtain rfl : j = N := by omega
      have HRR := Lib.hid (HMis.out H0.out)
      have y0 := free_blk HZ.out 0
      have y1 := free_blk HZ.out 1
      have y2 := free_blk HZ.out 2
      have z0 := cell_blk HZ.out 0 rfl
      have z1 := cell_blk HZ.out 1 rfl
      have z2 := cell_blk HZ.out 2 rfl
      go_wp2
      refine bodyPost_ret (v := .tuple #[.agg #[.int .i64 0, .string ⟨#[]⟩, .slice none 0 0], .int .i64 18]) ?_ rfl ⟨.slice none 0 0, by rw [HRR.out]; rfl, by rw [HRR.out]; exact Ans.nil _, Fits.nil, grown_set (grown_set (grown_set (grown_trans HG1.out HG.out) (.inl (Nat.le_succ _)) _) (.inl (Nat.le_succ _)) _) (.inl (Nat.le_succ _)) _⟩
      exact results_rowT Tryz.results11 _ _ (w.heap.size + 1) _ _ (0, 0) _ _ rfl (set3 HZ.out) Tryz.underlying30 rfl hI rfl
end Go.Proofs.YtihioekepflpiaaGreatDoor
namespace Go.Proofs.YtihioekepflpiaaGreatDoor
open Go.RowKit Bu
/-- A row is not a block of another type. -/
theorem own_not {w : World} {base : Nat} {e : TypeId} {sz : Nat} {v : Value} {n : Nat} {xs : List Value} (h : w.ownsRow base e sz v n xs) {b : Nat} {cs : Array Value} {t : TypeId} {fr : Nat × Nat} (hb : w.heap[b]? = some (.cells cs t fr)) (hne : t ≠ e) : some b ≠ v.ownBlock := fun hk => by
  rcases h.2 with ⟨h1, _⟩ | ⟨g, _, _, h1, _, h2, _⟩
  · rw [h1] at hk; cases hk
  · rw [h1] at hk
    obtain rfl : b = g := Option.some.inj hk
    rw [h2] at hb
    simp only [Option.some.injEq, Obj.cells.injEq] at hb
    exact hne hb.2.1.symm
theorem results_row1 {P : Program} {fn : Func} {p : Tmp} {ty : TypeId} (h : fn.results = #[.cell p ty]) (tmps : Array Value) (w : World) (g : Nat) (t : TypeId) (cs : Array Value) (fr : Nat × Nat) (d : TypeDesc)
    (hp : tmps.getD p undef = .pointer (some ⟨g, 0, none⟩)) (hg : w.heap[g]? = some (.cells cs t fr)) (hu : P.underlying ty = some d) (hd : (match d with | .struct _ | .array _ _ => true | _ => false) = true) (hi : (P.info? ty).map (·.size) = some cs.size) : (results fn tmps).run P w = .ok (.agg cs) w := by
  have hl := run_loadVar_row (P := P) w g t ty cs fr d hg hu hd hi
  have hp' : tmps[p]?.getD undef = .pointer (some ⟨g, 0, none⟩) := by simpa using hp
  simp [results, h, hp', asAddr, hl, Result.andThen]
set_option maxRecDepth 100000 in
set_option maxHeartbeats 8000000 in
theorem ofB_any (v : Int) (sp : ByteArray) (a : Value) (l : List An) (w : World) (hA : Ans w a l) (hl : l.length ≤ 2000) :
    Calls Tryz.prog 7 #[.agg #[.int .i64 v, .string sp, a]] w fun e w' => ∃ p, e = .returned (.agg #[.int .i64 v, .string sp, p]) ∧ Ans w' p l ∧ Fits p ∧ w.grownBy w' none := by
  have hI := rbd_info
  have hIa := an_info
  have hIf := ran_full
  obtain ⟨w1, hw1⟩ : ∃ w1, w1 = ((w.alloc (.cells #[.int .i64 v, .string sp, a] 24)).alloc (.cells #[.int .i64 0, .string ⟨#[]⟩, .slice none 0 0] 30)).alloc (.cells #[.int .i64 v, .string sp, .slice none 0 0] 30) := ⟨_, rfl⟩
  have hg1 : w.grownBy w1 none := by rw [hw1]; exact grown_alloc (grown_alloc (World.grownBy_alloc _ _ _) _) _
  have b0 : w1.heap[w.heap.size]? = some (.cells #[.int .i64 v, .string sp, a] 24 (0, 0)) := by rw [hw1]; exact alloc_keep (alloc2_old _ _ _)
  have b1 : w1.heap[w.heap.size + 1]? = some (.cells #[.int .i64 0, .string ⟨#[]⟩, .slice none 0 0] 30 (0, 0)) := by rw [hw1]; exact alloc_keep (alloc2_new _ _ _)
  have b2 : w1.heap[w.heap.size + 1 + 1]? = some (.cells #[.int .i64 v, .string sp, .slice none 0 0] 30 (0, 0)) := by
    rw [hw1]
    have := alloc_at ((w.alloc (.cells #[.int .i64 v, .string sp, a] 24)).alloc (.cells #[.int .i64 0, .string ⟨#[]⟩, .slice none 0 0] 30)) (.cells #[.int .i64 v, .string sp, .slice none 0 0] 30)
    rw [alloc_size, alloc_size] at this; exact this
  obtain ⟨a1, g1, s1, c1, rfl, ha1, _, hx1⟩ := hA.form
  have HX1 := Lib.hid (Ans.cells_at ha1 hx1)
  have HTk := Lib.hid (fun j (hj : j < l.length) => take_snoc hj)
  have HTa : Hid (l.take l.length = l) := Lib.hid (List.take_length)
  obtain ⟨N, hN⟩ : ∃ N, N = l.length := ⟨_, rfl⟩
  have HA1 : Hid (0 < N → a1 = some ⟨g1, s1, none⟩) := Lib.hid (fun h => (ha1 (by omega)).1)
  rw [← hN] at HX1 HTk HTa b0 hw1 hl ⊢
  have HO1 : Hid (w1.ownsRow w.heap.size 42 4 (.slice none 0 0) 0 (cellsA (l.take 0))) := Lib.hid (by rw [List.take_zero]; exact World.ownsRow_nil _ _ _ _)
  have HB0 := Lib.hid b0
  have HB1 := Lib.hid b1
  have HB2 := Lib.hid b2
  have HG1 := Lib.hid hg1
  have HW1 := Lib.hid hw1
  have d0 := cell_blk b0 0 rfl
  have d1 := cell_blk b0 1 rfl
  have d2 := cell_blk b0 2 rfl
  clear hA ha1 hx1 hN hg1 b0 b1 b2
  go_enter Tryz.func7, Tryz.ntmps7
  go_wp2
  rw [← HW1.out]
  clear hw1
  go_loopw [14] (fun i wr => ∃ (j : Nat) (o : Value), j ≤ N ∧ i = .int .i64 (j : Int) ∧ w.grownBy wr none ∧ wr.heap[w.heap.size]? = some (.cells #[.int .i64 v, .string sp, .slice a1 N c1] 24 (0, 0)) ∧ wr.heap[w.heap.size + 1]? = some (.cells #[.int .i64 0, .string ⟨#[]⟩, .slice none 0 0] 30 (0, 0)) ∧ wr.heap[w.heap.size + 1 + 1]? = some (.cells #[.int .i64 v, .string sp, o] 30 (0, 0)) ∧ wr.ownsRow w.heap.size 42 4 o j (cellsA (l.take j))) (fun i _ => N - (intOf i).toNat)
  case atStart => exact ⟨0, _, Nat.zero_le _, rfl, HG1.out, HB0.out, HB1.out, HB2.out, HO1.out⟩
  case round =>
    obtain ⟨j, o, hj, rfl, hg, hb0, hb1, hb2, ho⟩ := hrel
    have HG := Lib.hid hg
    have HR0 := Lib.hid hb0
    have HR1 := Lib.hid hb1
    have HR2 := Lib.hid hb2
    have HO := Lib.hid ho
    obtain ⟨oa, og, oc, rfl, -⟩ := own_formN ho
    clear hg hb0 hb1 hb2 ho d0 d1 d2
    by_cases hjN : j < N
    · obtain ⟨x0, x1, x2, x3⟩ := HX1.out wr HG.out j hjN
      obtain rfl := HA1.out (by omega)
      have HTj := Lib.hid (HTk.out j hjN)
      obtain ⟨x, hx⟩ : ∃ x, x = l.getD j an0 := ⟨_, rfl⟩
      rw [← hx] at x0 x1 x2 x3 HTj
      obtain ⟨xg, hxg⟩ : ∃ xg, xg = x.g := ⟨_, rfl⟩
      obtain ⟨xk, hxk⟩ : ∃ xk, xk = x.k := ⟨_, rfl⟩
      obtain ⟨xf, hxf⟩ : ∃ xf, xf = x.f := ⟨_, rfl⟩
      obtain ⟨xt, hxt⟩ : ∃ xt, xt = x.t := ⟨_, rfl⟩
      have HXe : Hid (x = ⟨xg, xk, xf, xt⟩) := Lib.hid (by rw [hxg, hxk, hxf, hxt])
      rw [← hxg] at x0
      rw [← hxk] at x1
      rw [← hxf] at x2
      rw [← hxt] at x3
      clear hxg hxk hxf hxt hx
      obtain ⟨w4, hw4⟩ : ∃ w4, w4 = wr.alloc (.cells #[.int .i64 xg, .string xk, .int .i64 xf, .int .i64 xt] 33) := ⟨_, rfl⟩
      have HB4 : Hid (w4.heap[wr.heap.size]? = some (.cells #[.int .i64 xg, .string xk, .int .i64 xf, .int .i64 xt] 33 (0, 0))) := Lib.hid (by rw [hw4]; exact alloc_at _ _)
      have HG4 : Hid (wr.grownBy w4 none) := Lib.hid (by rw [hw4]; exact World.grownBy_alloc _ _ _)
      have hr2 : w4.heap[w.heap.size + 1 + 1]? = some (.cells #[.int .i64 v, .string sp, .slice oa j oc] 30 (0, 0)) := by rw [hw4]; exact alloc_keep HR2.out
      have HW4 := Lib.hid hw4
      have e2 := cell_blk hr2 2 rfl
      rw [hw4] at e2
      clear hw4 hr2
      go_wp2_with (first
        | (rw [← HW4.out]; refine wpList_load_row (by rfl) 33 (.tmp 5) (by rfl) wr.heap.size (by rfl) 33 #[.int .i64 xg, .string xk, .int .i64 xf, .int .i64 xt] (0, 0) _ HB4.out Tryz.underlying33 rfl hIa ?_)
        | (at_builtin; refine wpList_appN3 (by rfl) (.tmp 19) (.tmp 21) 28 (by rfl) w.heap.size 42 (.agg #[.int .i64 0, .string ⟨#[]⟩, .int .i64 0, .int .i64 0]) 4 40 Tryz.underlying28 hIf rfl (by decide) (by decide) _ _ _ (by rfl) ((HO.out.kept HG4.out (Classical.em _)).alloc _) _ _ _ (by rfl) (Ans.lit (x := ⟨xg, xk, xf, xt⟩) (alloc_at _ _)).1 (Whole0.some _ _ _) (cellsA_one _) (by simp; omega) (grown_alloc (grown_trans HG.out HG4.out) _).size ?_; intro v5 w5 ho hg _; have HO5 := Lib.hid ho; have G5 := Lib.hid hg; have HG5 : Hid (w.grownBy w5 none) := Lib.hid (grown_own (grown_alloc (grown_trans HG.out HG4.out) _) ((HO.out.kept HG4.out (Classical.em _)).alloc _) (Nat.le_refl _) hg); have hkeep := (fun (b : Nat) (cs : Array Value) (t : TypeId) (h : wr.heap[b]? = some (.cells cs t (0, 0))) (hne : t ≠ 42) => (G5.out.block b (blk_lt (alloc_keep (hold_b3 h HG4.out))) (own_not HO.out h hne)).trans (alloc_keep (hold_b3 h HG4.out))); have R0 := Lib.hid (hkeep _ _ _ HR0.out (by decide)); have R1 := Lib.hid (hkeep _ _ _ HR1.out (by decide)); have R2 := Lib.hid (hkeep _ _ _ HR2.out (by decide)); have y2 := free_blk R2.out 2; have z2 := cell_blk R2.out 2 rfl; obtain ⟨oa', og', oc', rfl, -⟩ := own_formN ho; clear ho hg hkeep))
      have HF : Hid (∀ V, V = w5.setCell ⟨w.heap.size + 1 + 1, 2, none⟩ (.slice oa' (j + 1) oc') → w.grownBy V none ∧ V.heap[w.heap.size]? = some (.cells #[.int .i64 v, .string sp, .slice (some ⟨g1, s1, none⟩) N c1] 24 (0, 0)) ∧ V.heap[w.heap.size + 1]? = some (.cells #[.int .i64 0, .string ⟨#[]⟩, .slice none 0 0] 30 (0, 0)) ∧ V.heap[w.heap.size + 1 + 1]? = some (.cells #[.int .i64 v, .string sp, .slice oa' (j + 1) oc'] 30 (0, 0)) ∧ V.ownsRow w.heap.size 42 4 (.slice oa' (j + 1) oc') (j + 1) (cellsA (l.take (j + 1)))) := Lib.hid (fun V hV => by
        subst hV
        refine ⟨grown_set HG5.out (.inl (show w.heap.size ≤ w.heap.size + 1 + 1 from by omega)) _, (Below.heap_setCell _ _ _ _ (by show w.heap.size ≠ w.heap.size + 1 + 1; omega)).trans R0.out, (Below.heap_setCell _ _ _ _ (by show w.heap.size + 1 ≠ w.heap.size + 1 + 1; omega)).trans R1.out, by simpa using setCell_heap (i := 2) R2.out (.slice oa' (j + 1) oc'), ?_⟩
        have h5 : w5.ownsRow w.heap.size 42 4 (.slice oa' (j + 1) oc') (j + 1) (cellsA (l.take (j + 1))) := by
          rw [HTj.out, cellsA_app, HXe.out]
          exact HO5.out
        exact h5.kept (row := some (w.heap.size + 1 + 1)) (grown_set (grown_refl _ _) (.inr rfl) _) (.inr (fun e => own_not h5 R2.out (by decide) e.symm)))
      go_roundw
      case rel =>
        obtain ⟨k1, k2, k3, k4, k5⟩ := HF.out _ rfl
        exact ⟨j + 1, _, by omega, by go_num, k1, k2, k3, k4, k5⟩
      case measure => simp [intOf] <;> omega
    · obtain rfl : j = N := by omega
      rw [HTa.out] at HO
      have z0 := cell_blk HR1.out 0 rfl
      have z1 := cell_blk HR1.out 1 rfl
      have z2 := cell_blk HR1.out 2 rfl
      have y0 := free_blk HR1.out 0
      have y1 := free_blk HR1.out 1
      have y2 := free_blk HR1.out 2
      go_wp2_with (refine wpList_load_row (by rfl) 30 (.tmp 3) (by rfl) (w.heap.size + 1 + 1) (by rfl) 30 #[.int .i64 v, .string sp, .slice oa j oc] (0, 0) _ HR2.out Tryz.underlying30 rfl hI ?_)
      have HY := Lib.hid HO.out
      refine bodyPost_ret (v := .agg #[.int .i64 v, .string sp, .slice oa j oc]) ?_ rfl ⟨_, rfl, ((Ans.own HY.out).2.set3 HR1.out), Fits.own HY.out, grown_set (grown_set (grown_set HG.out (.inl (Nat.le_succ _)) _) (.inl (Nat.le_succ _)) _) (.inl (Nat.le_succ _)) _⟩
      exact results_row1 Tryz.results7 _ _ (w.heap.size + 1) _ _ (0, 0) _ rfl (set3 HR1.out) Tryz.underlying30 rfl hI
/-- Is it more than is asked? -/
def longB (sp : ByteArray) (l : List An) : Bool := decide (100 < sp.size) || (decide (20 < l.length) || l.any (fun x => decide (100 < x.k.size)))
set_option maxRecDepth 100000 in
set_option maxHeartbeats 8000000 in
theorem longB_any (v : Int) (sp : ByteArray) (a : Value) (l : List An) (w : World) (hA : Ans w a l) :
    Calls Tryz.prog 6 #[.agg #[.int .i64 v, .string sp, a]] w fun e w' => e = .returned (.bool (longB sp l)) ∧ w.grownBy w' none := by
  obtain ⟨w1, hw1⟩ : ∃ w1, w1 = w.alloc (.cells #[.int .i64 v, .string sp, a] 24) := ⟨_, rfl⟩
  have hg1 : w.grownBy w1 none := by rw [hw1]; exact World.grownBy_alloc _ _ _
  have b0 : w1.heap[w.heap.size]? = some (.cells #[.int .i64 v, .string sp, a] 24 (0, 0)) := by rw [hw1]; exact alloc_at _ _
  obtain ⟨a1, g1, s1, c1, rfl, ha1, _, hx1⟩ := (hA.grown hg1).form
  have HX1 := Lib.hid (Ans.cells_at ha1 hx1)
  obtain ⟨V, hV⟩ : ∃ V, V = longB sp l := ⟨_, rfl⟩
  rw [← hV]
  unfold longB at hV
  have HAny : Hid (∀ j, j < l.length → 100 < (l.getD j an0).k.size → l.any (fun x => decide (100 < x.k.size)) = true) := Lib.hid (fun j hj h => by
    rw [List.any_eq_true]
    refine ⟨l.getD j an0, ?_, decide_eq_true h⟩
    rw [List.getD_eq_getElem?_getD, List.getElem?_eq_getElem hj]
    exact List.getElem_mem _)
  have HNo : Hid ((∀ j, j < l.length → ¬ 100 < (l.getD j an0).k.size) → l.any (fun x => decide (100 < x.k.size)) = false) := Lib.hid (fun h => by
    rw [List.any_eq_false]
    intro y hy
    obtain ⟨i, hi, rfl⟩ := List.mem_iff_getElem.1 hy
    have := h i hi
    rw [List.getD_eq_getElem?_getD, List.getElem?_eq_getElem hi] at this
    replace this : ¬ 100 < l[i].k.size := this
    rw [decide_eq_false this]
    decide)
  obtain ⟨N, hN⟩ : ∃ N, N = l.length := ⟨_, rfl⟩
  have HA1 : Hid (0 < N → a1 = some ⟨g1, s1, none⟩) := Lib.hid (fun h => (ha1 (by omega)).1)
  rw [← hN] at HX1 hV HAny HNo b0 hw1 ⊢
  have HV := Lib.hid hV
  have HW1 := Lib.hid hw1
  have HG1 := Lib.hid hg1
  have d1 := cell_blk b0 1 rfl
  have d2 := cell_blk b0 2 rfl
  rw [hw1] at d1 d2
  clear hA hw1 hg1 b0 ha1 hx1 hN hV
  by_cases hsp : 100 < sp.size
  · have hs2 : (100 : Int) < (sp.size : Int) := by omega
    have HVt : Hid (V = true) := Lib.hid (by rw [HV.out, decide_eq_true hsp, Bool.true_or])
    go_enter Tryz.func6, Tryz.ntmps6
    go_wp2
    go_ret
    exact ⟨by rw [HVt.out]; first | done | rfl, by rw [← HW1.out]; exact HG1.out⟩
  have hs2 : ¬ (100 : Int) < (sp.size : Int) := by omega
  by_cases hN : 20 < N
  · have hN2 : (20 : Int) < (N : Int) := by omega
    have HVt : Hid (V = true) := Lib.hid (by rw [HV.out, decide_eq_true hN, Bool.true_or, Bool.or_true])
    go_enter Tryz.func6, Tryz.ntmps6
    go_wp2
    go_ret
    exact ⟨by rw [HVt.out]; first | done | rfl, by rw [← HW1.out]; exact HG1.out⟩
  have hN2 : ¬ (20 : Int) < (N : Int) := by omega
  have HVr : Hid (V = l.any (fun x => decide (100 < x.k.size))) := Lib.hid (by rw [HV.out, decide_eq_false hsp, decide_eq_false hN, Bool.false_or, Bool.false_or])
  go_enter Tryz.func6, Tryz.ntmps6
  go_wp2
  rw [← HW1.out]
  go_loopw [18] (fun i wr => ∃ j : Nat, j ≤ N ∧ i = .int .i64 (j : Int) ∧ w1.grownBy wr none ∧ ∀ i, i < j → ¬ 100 < (l.getD i an0).k.size) (fun i _ => N - (intOf i).toNat)
  case atStart => exact ⟨0, Nat.zero_le _, rfl, grown_refl _ _, fun j hj => absurd hj (Nat.not_lt_zero _)⟩
  case round =>
    obtain ⟨j, hj, rfl, hg, h0⟩ := hrel
    have HG := Lib.hid hg
    have H0 := Lib.hid h0
    clear hg h0 d1 d2
    by_cases hjN : j < N
    · obtain ⟨x0, x1, x2, x3⟩ := HX1.out wr HG.out j hjN
      obtain rfl := HA1.out (by omega)
      have HY : Hid (100 < (l.getD j an0).k.size → V = true) := Lib.hid (fun h => by rw [HVr.out]; exact HAny.out j hjN h)
      have HS : Hid (¬ 100 < (l.getD j an0).k.size → ∀ i, i < j + 1 → ¬ 100 < (l.getD i an0).k.size) := Lib.hid (fun h i hi => by
        rcases Nat.lt_or_ge i j with h1 | h1
        · exact H0.out i h1
        · obtain rfl : i = j := by omega
          exact h)
      generalize (l.getD j an0).g = p1 at *
      generalize (l.getD j an0).k = p2 at *
      generalize (l.getD j an0).f = p3 at *
      generalize (l.getD j an0).t = p4 at *
      have HGn := Lib.hid (grown_alloc HG.out (.cells #[.int .i64 p1, .string p2, .int .i64 p3, .int .i64 p4] 33))
      by_cases hp : 100 < p2.size
      · have hp2 : (100 : Int) < (p2.size : Int) := by omega
        have HVt := Lib.hid (HY.out hp)
        go_wp2
        go_ret
        exact ⟨by rw [HVt.out]; first | done | rfl, grown_trans HG1.out HGn.out⟩
      · have hp2 : ¬ (100 : Int) < (p2.size : Int) := by omega
        have HN2 := Lib.hid (HS.out hp)
        go_wp2
        go_roundw
        case rel => exact ⟨j + 1, by omega, by go_num, HGn.out, HN2.out⟩
        case measure => simp [intOf] <;> omega
    · obtain rfl : j = N := by omega
      have HVf : Hid (V = false) := Lib.hid (by rw [HVr.out]; exact HNo.out H0.out)
      go_wp2
      go_ret
      exact ⟨by rw [HVf.out]; first | done | rfl, grown_trans HG1.out HG.out⟩
end Go.Proofs.YtihioekepflpiaaGreatDoor
