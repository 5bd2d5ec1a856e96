import Derived.Test.YtihioekepflpiaaGreatDoorZb45
import Derived.Test.YtihioekepflpiaaGreatDoorZb46
set_option linter.unusedVariables false
set_option linter.unusedSimpArgs false
namespace Go.Proofs.YtihioekepflpiaaGreatDoor
open Go.RowKit Bu
set_option maxRecDepth 100000 in
set_option maxHeartbeats 8000000 in
theorem bBytes_any {A : Nat → Addr} (v : Int) (sp : ByteArray) (a : Value) (l : List An) (w : World) (hA : Ans w a l) (hr : right ⟨v, sp, l⟩ = true) (hk : ∀ x ∈ l, x.k.size ≤ 1000) (hsp : sp.size ≤ 1000) (hB : BodiesOf A w) :
    Calls Tryz.prog 19 #[.agg #[.int .i64 v, .string sp, a]] w fun e w' => w.grownBy w' none ∧ PDnPost A w w' (De.done (putBd ⟨v, sp, l⟩)) e := by
  have hI := bd_info
  have hr2 : (decide (1 ≤ v ∧ v ≤ 1099511627776) && (Pt.label (strL sp) && okL l)) = true := hr
  rw [Bool.and_eq_true, Bool.and_eq_true, decide_eq_true_eq] at hr2
  obtain ⟨hv, _, hok⟩ := hr2
  have h8 : l.length ≤ 8 := by
    unfold okL at hok
    rw [Bool.and_eq_true, decide_eq_true_eq] at hok
    exact hok.1.2
  obtain ⟨w1, hw1⟩ : ∃ w1, w1 = w.alloc (.cells #[.int .i64 v, .string sp, a] 24) := ⟨_, rfl⟩
  have hg1 : w.grownBy w1 none := by rw [hw1]; exact World.grownBy_alloc _ _ _
  have b0 : w1.heap[w.heap.size]? = some (.cells #[.int .i64 v, .string sp, a] 24 (0, 0)) := by rw [hw1]; exact alloc_at _ _
  have hRt := bright_any A v sp a l w1 (hA.grown hg1) (by omega) hk hsp (hB.errs.grown hg1)
  rw [hr] at hRt
  have HRt := Lib.hid hRt
  have gz : GoodW 0 De.St.zero := GoodW.zero
  have g1 := gz.step (wOpen 48) rfl (by simp [wOpen, De.none0])
  have g2 := g1.step (wInt v) rfl (by simp [wInt, De.none0])
  have g3 := g2.step (wTxt 24 sp) rfl (fun x hx => strL_lt sp x hx)
  have g4 : GoodW 60 (putAns (De.step (De.step (De.step De.St.zero (wOpen 48)) (wInt v)) (wTxt 24 sp)) l) := by
    have h := stA_good g3 hok l.length (Nat.le_refl _)
    have e : putAns (De.step (De.step (De.step De.St.zero (wOpen 48)) (wInt v)) (wTxt 24 sp)) l = De.step (stA (De.step (De.step (De.step De.St.zero (wOpen 48)) (wInt v)) (wTxt 24 sp)) l l.length) wClose := by unfold putAns stA; rw [List.take_length]
    rw [e]
    exact (h.step wClose rfl (by simp [wClose, De.none0])).mono (by omega)
  have g5 := g4.step wClose rfl (by simp [wClose, De.none0])
  have HOp := Lib.hid (fun b F' W (h : PrW A w F' b De.St.zero W) => prOpen_step h hB (wOpen 48) rfl)
  have HIn := Lib.hid (fun b F' W (h : PrW A w F' b (De.step De.St.zero (wOpen 48)) W) => prInt_any h hB (g1.lim.mono (by omega)) (wInt v) rfl ⟨by show -9223372036854775808 ≤ v; omega, by show v ≤ 9223372036854775807; omega⟩)
  have HTx := Lib.hid (fun b F' W (h : PrW A w F' b (De.step (De.step De.St.zero (wOpen 48)) (wInt v)) W) => prText_any h hB (g2.lim.mono (by omega)) (wTxt 24 sp) rfl ⟨by show (-9223372036854775808 : Int) ≤ 24; decide, by show (24 : Int) ≤ 9223372036854775807; decide⟩ sp rfl hsp)
  have HRo := Lib.hid (fun b F' W a0 c (ha : a = .slice a0 l.length c) (h : PrW A w F' b (De.step (De.step (De.step De.St.zero (wOpen 48)) (wInt v)) (wTxt 24 sp)) W) => brows_any l a0 l.length c h hB g3 (by omega) hok hk rfl (fun W' hu => by rw [← ha]; exact hA.of_upto h.base (fun k hf => (h.own k hf).1) hu))
  have HCl := Lib.hid (fun b F' W (h : PrW A w F' b (putAns (De.step (De.step (De.step De.St.zero (wOpen 48)) (wInt v)) (wTxt 24 sp)) l) W) => prClose_any h hB.errs (g4.lim.mono (by omega)) (fun p hp => (g4.good.op p hp).1) wClose rfl)
  have HD := Lib.hid (fun b F' W (h : PrW A w F' b (De.step (putAns (De.step (De.step (De.step De.St.zero (wOpen 48)) (wInt v)) (wTxt 24 sp)) l) wClose) W) => (prDone_any h hB.errs (g5.lim.mono (by omega))).mono (fun e w' hp => (show w.grownBy w' none ∧ PDnPost A W w' _ e from ⟨grown_trans h.base hp.1, hp⟩)))
  have hpp : putBd ⟨v, sp, l⟩ = De.step (putAns (De.step (De.step (De.step De.St.zero (wOpen 48)) (wInt v)) (wTxt 24 sp)) l) wClose := rfl
  rw [hpp]
  have hn1 : (wOpen 48).n = 48 := rfl
  have hn2 : (wInt v).n = v := rfl
  have hn3 : (wTxt 24 sp).n = 24 := rfl
  rw [hn1] at HOp
  rw [hn2] at HIn
  rw [hn3] at HTx
  generalize De.step (putAns (De.step (De.step (De.step De.St.zero (wOpen 48)) (wInt v)) (wTxt 24 sp)) l) wClose = s5 at *
  generalize putAns (De.step (De.step (De.step De.St.zero (wOpen 48)) (wInt v)) (wTxt 24 sp)) l = s4 at *
  generalize De.step (De.step (De.step De.St.zero (wOpen 48)) (wInt v)) (wTxt 24 sp) = s3 at *
  generalize De.step (De.step De.St.zero (wOpen 48)) (wInt v) = s2 at *
  generalize De.step De.St.zero (wOpen 48) = s1 at *
  obtain ⟨a1, ag, ao, c1, rfl, -, -, -⟩ := hA.form
  have HRo1 := Lib.hid (fun b F' W => HRo.out b F' W a1 c1 rfl)
  generalize l.length = n at *
  have HW1 := Lib.hid hw1
  have HB0 := Lib.hid b0
  have HG1 := Lib.hid hg1
  clear hA hr hk hsp hB hv hok h8 hw1 b0 hRt gz g1 g2 g3 g4 g5 hpp hn1 hn2 hn3 HRo
  have key : ∀ (R : Except Nat (List Nat)), R = De.done s5 → Calls Tryz.prog 19 #[.agg #[.int .i64 v, .string sp, .slice a1 n c1]] w fun e w' => w.grownBy w' none ∧ PDnPost A w w' R e := by
    intro R hR
    rw [← hR] at HD
    clear hR
    cases R with
    | ok L =>
      obtain ⟨m, hm⟩ : ∃ m, m = L.length := ⟨_, rfl⟩
      have HM := Lib.hid hm
      clear hm
      go_enter Tryz.func19, Tryz.ntmps19
      go_wp2_with (first
        | (rw [← HW1.out]; refine wpList_load_row (by rfl) 24 (.tmp 1) (by rfl) w.heap.size (by rfl) 24 #[.int .i64 v, .string sp, .slice a1 n c1] (0, 0) _ HB0.out Tryz.underlying24 rfl hI ?_)
        | (go_at_call 33; (try rw [← HW1.out]); refine HRt.out.mono ?_; rintro e w2 ⟨rfl, hg2⟩; have HG2 := Lib.hid (grown_trans HG1.out hg2); have HB2 := Lib.hid (hold_b3 HB0.out hg2); obtain ⟨w3, hw3⟩ : ∃ w3, w3 = w2.alloc (.cells #[.slice none 0 0, .slice none 0 0, .nilIface] 74) := ⟨_, rfl⟩; have R3 : Hid (RunW A w w3 (fun k => k = w2.heap.size) (fun k => k = w2.heap.size) w2.heap.size De.St.zero w3) := Lib.hid (by rw [hw3]; exact RunW.start (PrW.new HG2.out)); have HB3 : Hid (w3.heap[w.heap.size]? = some (.cells #[.int .i64 v, .string sp, .slice a1 n c1] 24 (0, 0))) := Lib.hid (by rw [hw3]; exact alloc_keep HB2.out); have HNe : Hid (w.heap.size ≠ w2.heap.size) := Lib.hid (Nat.ne_of_lt (blk_lt HB2.out)); have HW3 := Lib.hid hw3; clear hg2 hw3)
        | (go_at_call 34; (try rw [← HW3.out]); (with_reducible refine (HOp.out _ _ _ R3.out.wrt).mono ?_); rintro e w4 hp; have he := hp.1; subst he; have R4 := Lib.hid (R3.out.call hp); have b4 := (R4.out.kept (blk_lt HB3.out) HNe.out).trans HB3.out; have d0 := cell_blk b4 0 rfl; clear hp b4)
        | (go_at_call 35; (with_reducible refine (HIn.out _ _ _ R4.out.wrt).mono ?_); rintro e w5 hp; have he := hp.1; subst he; have R5 := Lib.hid (R4.out.call hp); have b5 := (R5.out.kept (blk_lt HB3.out) HNe.out).trans HB3.out; have d1 := cell_blk b5 1 rfl; clear hp b5)
        | (go_at_call 36; (with_reducible refine (HTx.out _ _ _ R5.out.wrt).mono ?_); rintro e w6 hp; have he := hp.1; subst he; have R6 := Lib.hid (R5.out.call hp); have b6 := (R6.out.kept (blk_lt HB3.out) HNe.out).trans HB3.out; have d2 := cell_blk b6 2 rfl; clear hp b6)
        | (go_at_call 37; (with_reducible refine (HRo1.out _ _ _ R6.out.wrt).mono ?_); rintro e w7 hp; have he := hp.1; subst he; have R7 := Lib.hid (R6.out.call hp); clear hp)
        | (go_at_call 42; (with_reducible refine (HCl.out _ _ _ R7.out.wrt).mono ?_); rintro e w8 hp; have he := hp.1; subst he; have R8 := Lib.hid (R7.out.call hp); clear hp)
        | (go_at_call 43; (with_reducible refine (HD.out _ _ _ R8.out.wrt).mono ?_); rintro e w9 ⟨hg9, -, a9, c9, rfl, hb9, hw9⟩; have G9 := Lib.hid hg9; have B9 := Lib.hid (And.intro hb9 hw9); clear hg9 hb9 hw9))
      go_ret2
      exact ⟨G9.out, G9.out, _, _, rfl, B9.out.1, B9.out.2⟩
    | error k9 =>
      go_enter Tryz.func19, Tryz.ntmps19
      go_wp2_with (first
        | (rw [← HW1.out]; refine wpList_load_row (by rfl) 24 (.tmp 1) (by rfl) w.heap.size (by rfl) 24 #[.int .i64 v, .string sp, .slice a1 n c1] (0, 0) _ HB0.out Tryz.underlying24 rfl hI ?_)
        | (go_at_call 33; (try rw [← HW1.out]); refine HRt.out.mono ?_; rintro e w2 ⟨rfl, hg2⟩; have HG2 := Lib.hid (grown_trans HG1.out hg2); have HB2 := Lib.hid (hold_b3 HB0.out hg2); obtain ⟨w3, hw3⟩ : ∃ w3, w3 = w2.alloc (.cells #[.slice none 0 0, .slice none 0 0, .nilIface] 74) := ⟨_, rfl⟩; have R3 : Hid (RunW A w w3 (fun k => k = w2.heap.size) (fun k => k = w2.heap.size) w2.heap.size De.St.zero w3) := Lib.hid (by rw [hw3]; exact RunW.start (PrW.new HG2.out)); have HB3 : Hid (w3.heap[w.heap.size]? = some (.cells #[.int .i64 v, .string sp, .slice a1 n c1] 24 (0, 0))) := Lib.hid (by rw [hw3]; exact alloc_keep HB2.out); have HNe : Hid (w.heap.size ≠ w2.heap.size) := Lib.hid (Nat.ne_of_lt (blk_lt HB2.out)); have HW3 := Lib.hid hw3; clear hg2 hw3)
        | (go_at_call 34; (try rw [← HW3.out]); (with_reducible refine (HOp.out _ _ _ R3.out.wrt).mono ?_); rintro e w4 hp; have he := hp.1; subst he; have R4 := Lib.hid (R3.out.call hp); have b4 := (R4.out.kept (blk_lt HB3.out) HNe.out).trans HB3.out; have d0 := cell_blk b4 0 rfl; clear hp b4)
        | (go_at_call 35; (with_reducible refine (HIn.out _ _ _ R4.out.wrt).mono ?_); rintro e w5 hp; have he := hp.1; subst he; have R5 := Lib.hid (R4.out.call hp); have b5 := (R5.out.kept (blk_lt HB3.out) HNe.out).trans HB3.out; have d1 := cell_blk b5 1 rfl; clear hp b5)
        | (go_at_call 36; (with_reducible refine (HTx.out _ _ _ R5.out.wrt).mono ?_); rintro e w6 hp; have he := hp.1; subst he; have R6 := Lib.hid (R5.out.call hp); have b6 := (R6.out.kept (blk_lt HB3.out) HNe.out).trans HB3.out; have d2 := cell_blk b6 2 rfl; clear hp b6)
        | (go_at_call 37; (with_reducible refine (HRo1.out _ _ _ R6.out.wrt).mono ?_); rintro e w7 hp; have he := hp.1; subst he; have R7 := Lib.hid (R6.out.call hp); clear hp)
        | (go_at_call 42; (with_reducible refine (HCl.out _ _ _ R7.out.wrt).mono ?_); rintro e w8 hp; have he := hp.1; subst he; have R8 := Lib.hid (R7.out.call hp); clear hp)
        | (go_at_call 43; (with_reducible refine (HD.out _ _ _ R8.out.wrt).mono ?_); rintro e w9 ⟨hg9, -, rfl⟩; have G9 := Lib.hid hg9; clear hg9))
      go_ret2
      exact ⟨G9.out, G9.out, rfl⟩
  exact key _ rfl
end Go.Proofs.YtihioekepflpiaaGreatDoor
namespace Go.Proofs.YtihioekepflpiaaGreatDoor
open Go.RowKit Bu
def aK : ByteArray := ⟨#[48, 48, 48, 48, 48, 48, 48, 48, 48, 48, 48, 48, 48, 48, 48, 48, 48, 48, 48, 48, 48, 48, 48, 48, 48, 48, 48, 48, 48, 48, 48, 48]⟩
def aS : ByteArray := ⟨#[97]⟩
theorem aBd_out : (without ⟨1, aS, [⟨1, aK, 0, 5⟩]⟩ 1).1 = 4 := by decide +kernel
theorem aBd_L : ∃ L, De.done (putBd ⟨1, aS, [⟨1, aK, 0, 5⟩]⟩) = .ok L ∧ 20 < L.length := by
  have h : (match De.done (putBd ⟨1, aS, [⟨1, aK, 0, 5⟩]⟩) with | .ok L => decide (20 < L.length) | .error _ => false) = true := by decide +kernel
  generalize De.done (putBd ⟨1, aS, [⟨1, aK, 0, 5⟩]⟩) = R at *
  cases R with
  | ok L => exact ⟨L, rfl, by simpa using h⟩
  | error k => cases h
set_option maxRecDepth 100000 in
set_option maxHeartbeats 8000000 in
theorem alive13_any {A : Nat → Addr} (w : World) (hB : BodiesOf A w) :
    Calls Tryz.prog 5 #[] w fun e w' => e = .returned (.bool true) ∧ w.grownBy w' none := by
  have hI := bd_info
  obtain ⟨L, hL, h20⟩ := aBd_L
  obtain ⟨w1, hw1⟩ : ∃ w1, w1 = (w.alloc (.cells #[.int .i64 1, .string aK, .int .i64 0, .int .i64 5] 33)).alloc (.cells #[.int .i64 1, .string aS, .slice (some ⟨w.heap.size, 0, none⟩) 1 1] 24) := ⟨_, rfl⟩
  have hg1 : w.grownBy w1 none := by rw [hw1]; exact grown_alloc (World.grownBy_alloc _ _ _) _
  have b0 : w1.heap[w.heap.size]? = some (.cells #[.int .i64 1, .string aK, .int .i64 0, .int .i64 5] 33 (0, 0)) := by rw [hw1]; exact alloc2_old _ _ _
  have b1 : w1.heap[w.heap.size + 1]? = some (.cells #[.int .i64 1, .string aS, .slice (some ⟨w.heap.size, 0, none⟩) 1 1] 24 (0, 0)) := by rw [hw1]; exact alloc2_new _ _ _
  have hA : Ans w1 (.slice (some ⟨w.heap.size, 0, none⟩) 1 1) [⟨1, aK, 0, 5⟩] := Ans.lit (x := ⟨1, aK, 0, 5⟩) b0
  have hks : ∀ x ∈ [(⟨1, aK, 0, 5⟩ : An)], x.k.size ≤ 1000 := fun x hx => by rw [List.mem_singleton.1 hx]; decide
  have hB1 := BodiesOf.up9 hB hg1
  have HWo := Lib.hid (bwithout_any A 1 aS (.slice (some ⟨w.heap.size, 0, none⟩) 1 1) [⟨1, aK, 0, 5⟩] 1 w1 hA (by decide) hks (by decide) hB1.errs (by decide) (by decide))
  have HBy := Lib.hid (fun W (hW : w1.grownBy W none) => (by
    have h := bBytes_any (A := A) 1 aS (.slice (some ⟨w.heap.size, 0, none⟩) 1 1) [⟨1, aK, 0, 5⟩] W (hA.grown hW) (by decide +kernel) hks (by decide) (BodiesOf.up9 hB1 hW)
    rw [hL] at h
    exact h : Calls Tryz.prog 19 #[.agg #[.int .i64 1, .string aS, .slice (some ⟨w.heap.size, 0, none⟩) 1 1]] W fun e w' => W.grownBy w' none ∧ PDnPost A W w' (.ok L) e))
  have h4 := aBd_out
  obtain ⟨R, hR⟩ : ∃ R, R = without ⟨1, aS, [⟨1, aK, 0, 5⟩]⟩ 1 := ⟨_, rfl⟩
  rw [← hR] at HWo h4
  have HNm := Lib.hid (fun W (hW : w.grownBy W none) => num_of A 4 (by decide) W (hB.errs.grown hW))
  obtain ⟨m, hm⟩ : ∃ m, m = L.length := ⟨_, rfl⟩
  rw [← hm] at h20
  have h20i : (20 : Int) < (m : Int) := by omega
  have HM := Lib.hid hm
  have H4 := Lib.hid h4
  have HW1 := Lib.hid hw1
  have HB1 := Lib.hid b1
  have HG1 := Lib.hid hg1
  have hs : aS = ⟨#[97]⟩ := rfl
  have hk : aK = ⟨#[48, 48, 48, 48, 48, 48, 48, 48, 48, 48, 48, 48, 48, 48, 48, 48, 48, 48, 48, 48, 48, 48, 48, 48, 48, 48, 48, 48, 48, 48, 48, 48]⟩ := rfl
  have HSs := Lib.hid hs
  have HKk := Lib.hid hk
  clear hB hL hw1 hg1 b0 b1 hA hks hB1 hR hm h4 hs hk
  go_enter Tryz.func5, Tryz.ntmps5
  go_wp2_with (first
    | (rw [← HSs.out, ← HKk.out, ← HW1.out]; refine wpList_load_row (by rfl) 24 (.tmp 1) (by rfl) (w.heap.size + 1) (by rfl) 24 #[.int .i64 1, .string aS, .slice (some ⟨w.heap.size, 0, none⟩) 1 1] (0, 0) _ HB1.out Tryz.underlying24 rfl hI ?_)
    | (go_at_call 10; refine HWo.out.mono ?_; rintro e w2 ⟨p2, rfl, ha, hf, hg⟩; obtain ⟨pa, _, _, pc, rfl, -, -, -⟩ := ha.form; rw [H4.out]; obtain ⟨w3, hw3⟩ : ∃ w3, w3 = w2.alloc (.cells #[.int .i64 R.2.v, .string R.2.sp, .slice pa R.2.l.length pc] 24) := ⟨_, rfl⟩; have hg3 : w1.grownBy w3 none := (by rw [hw3]; exact grown_alloc hg _); have HG3 := Lib.hid hg3; have HB3 := Lib.hid (hold_b3 HB1.out hg3); have HW3 := Lib.hid hw3; clear ha hf hg hw3 hg3)
    | (rw [← HW3.out]; refine wpList_load_row (by rfl) 24 (.tmp 1) (by rfl) (w.heap.size + 1) (by rfl) 24 #[.int .i64 1, .string aS, .slice (some ⟨w.heap.size, 0, none⟩) 1 1] (0, 0) _ HB3.out Tryz.underlying24 rfl hI ?_)
    | (go_at_call 19; refine (HBy.out _ HG3.out).mono ?_; rintro e w4 ⟨hg4, -, a4, c4, rfl, -, -⟩; rw [← HM.out]; have HG4 := Lib.hid (grown_trans HG1.out (grown_trans HG3.out hg4)); clear hg4)
    | (go_at_call 12; refine (HNm.out _ HG4.out).mono ?_; rintro e w5 ⟨rfl, hg5⟩; have HG5 := Lib.hid (grown_trans HG4.out hg5); clear hg5))
  go_ret
  exact ⟨rfl, HG5.out⟩
end Go.Proofs.YtihioekepflpiaaGreatDoor
