/- The walk of the law NamesParse (by wip/tools/gennqa.py). -/
import Derived.Test.YtepjjgplnmkjgaaDoorNq8
import Derived.Test.YtepjjgplnmkjgaaDoorNq9
import Derived.Test.YtepjjgplnmkjgaaDoorNq4
import Derived.Test.YtepjjgplnmkjgaaDoorEv
import Derived.Test.YtepjjgplnmkjgaaDoorNt0
namespace Go.Proofs.YtepjjgplnmkjgaaDoor
open Go.RowKit
set_option linter.unusedVariables false

def IsS (l : List Na.Pr) : Prop := Na.right (Na.s0 l) = true ∧ Na.parts (Na.s0 l) = l
theorem ro_yes {l : List Na.Pr} {e : Ending} (h : RO9 l e) (hc : IsS l) : e = .returned (.tuple #[Na.val (Na.s0 l), .bool true]) := by
  rcases h with ⟨s, rfl, h1, h2⟩ | ⟨_, h⟩
  · rw [← h2, Na.s0_parts h1]
  · exfalso
    obtain ⟨h1, h2⟩ := hc
    have hk := (Na.right_facts h1).1
    have hcd := Na.cand_parts h1
    rw [h2] at hcd
    refine h (Na.s0 l).k.toNat (by omega) (by omega) ?_
    unfold HitO
    rw [Int.toNat_of_nonneg (by omega), hcd]
    exact ⟨h1, h2⟩
theorem ro_no {l : List Na.Pr} {e : Ending} (h : RO9 l e) (hc : ¬ IsS l) : e = .returned (.tuple #[Na.val ⟨0, Na.e0, Na.e0⟩, .bool false]) := by
  rcases h with ⟨s, rfl, h1, h2⟩ | ⟨h, _⟩
  · exfalso
    refine hc ?_
    unfold IsS
    rw [← h2, Na.s0_parts h1]
    exact ⟨h1, rfl⟩
  · exact h
theorem rp_yes {t : ByteArray} {e : Ending} (h : RP9 t e) (hc : Na.right (Na.p0 t) = true) : e = .returned (.tuple #[Na.val (Na.p0 t), .bool true]) := by
  rcases h with ⟨s, rfl, h1, h2⟩ | ⟨_, h⟩
  · rw [← h2, Na.p0_text h1]
  · exfalso
    have ht := Na.text_p0 hc
    have hk := (Na.right_facts hc).1
    obtain ⟨r, hr1, hr2⟩ := Na.pc_text hc
    refine h (Na.p0 t).k.toNat (by omega) (by omega) ⟨r, ?_, ?_, ?_⟩
    · rw [Int.toNat_of_nonneg (by omega), ← hr1, ht]
    · rw [Int.toNat_of_nonneg (by omega), hr2]; exact hc
    · rw [Int.toNat_of_nonneg (by omega), hr2]; exact ht
theorem rp_no {t : ByteArray} {e : Ending} (h : RP9 t e) (hc : ¬ Na.right (Na.p0 t) = true) : e = .returned (.tuple #[Na.val ⟨0, Na.e0, Na.e0⟩, .bool false]) := by
  rcases h with ⟨s, rfl, h1, h2⟩ | ⟨h, _⟩
  · exfalso
    refine hc ?_
    rw [← h2, Na.p0_text h1]
    exact h1
  · exact h
theorem err_name {w : World} {A : Nat → Addr} (h : AllErrs w A) : w.cell? ⟨0, 0, none⟩ = some (errV A 9) := errs_at h 9 (by decide)
set_option maxRecDepth 100000 in
set_option maxHeartbeats 16000000 in
theorem namesParse_any (A : Nat → Addr) (v : Value) (l : List Na.Pr) (t : ByteArray) (w : World) (hP : Prts w v l) (hW : Words w) (hE : AllErrs w A) : Calls Tryd.prog 3 #[v, .string t] w fun e w' => e = .returned (.bool true) ∧ w.grownBy w' none := by
  have hI : (Tryd.prog.info? 27).map (·.size) = some 3 := by kernel_rfl
  have HAl := Lib.hid (alive9_any w hW)
  have HP := Lib.hid hP
  have HW := Lib.hid hW
  have HE := Lib.hid hE
  obtain ⟨a2, b2, s2, c2, rfl, ha2, hx2⟩ := hP
  have HX2 := Lib.hid (fun W (hg : w.grownBy W none) i (hi : i < l.length) => (show W.cell? ⟨b2, s2 + i * 2, none⟩ = some (.string (l.getD i (Na.e0, Na.e0)).1) ∧ W.cell? ⟨b2, s2 + i * 2 + 1, none⟩ = some (.string (l.getD i (Na.e0, Na.e0)).2) from by
    have hb := hg.block b2 (ha2 (by omega)).2 (by simp)
    exact ⟨(World.cell?_of_block hb).trans (hx2 i hi).1, (World.cell?_of_block hb).trans (hx2 i hi).2⟩))
  obtain ⟨N, hN⟩ : ∃ N, N = l.length := ⟨_, rfl⟩
  have HNl := Lib.hid hN
  have HA2 : Hid (0 < N → a2 = some ⟨b2, s2, none⟩) := Lib.hid (fun h => (ha2 (by omega)).1)
  rw [← hN] at HX2 HP ⊢
  clear ha2 hx2 hN hW hE
  by_cases hlong : 20 < N ∨ 300 < t.size
  · have hc : (20 : Int) < (N : Int) ∨ (300 : Int) < (t.size : Int) := by omega
    have hc2 : 20 < N ∨ (¬ 20 < N ∧ 300 < t.size) := by omega
    clear hlong hc
    rcases hc2 with h | ⟨h1, h⟩
    all_goals
      go_enter Tryd.func3, Tryd.ntmps3
      go_wp2_with (go_at_call 5; refine HAl.out.mono ?_; rintro e w1 ⟨rfl, hg1⟩; have HG1 := Lib.hid hg1; clear hg1)
      go_ret
      exact ⟨rfl, HG1.out⟩
  · have hN20 : N ≤ 20 := by omega
    have ht3 : t.size ≤ 300 := by omega
    have hc1 : ¬ (20 : Int) < (N : Int) := by omega
    have hc2 : ¬ (300 : Int) < (t.size : Int) := by omega
    clear hlong
    go_enter Tryd.func3, Tryd.ntmps3
    go_wp2_with (go_at_call 5; refine HAl.out.mono ?_; rintro e w1 ⟨rfl, hg1⟩; have HG1 := Lib.hid hg1; clear hg1)
    clear HAl
    go_loopw [25, 6] (fun i _ wr => ∃ k : Nat, k ≤ N ∧ i = .int .i64 (k : Int) ∧ w.grownBy wr none ∧ ∀ j, j < k → (l.getD j (Na.e0, Na.e0)).2.size ≤ 100) (fun i _ _ => N - (intOf i).toNat)
    case atStart => exact ⟨0, by omega, rfl, HG1.out, fun j hj => absurd hj (Nat.not_lt_zero _)⟩
    case round =>
      obtain ⟨k, hk, rfl, hg, h0⟩ := hrel
      have HG := Lib.hid hg
      have H0 := Lib.hid h0
      clear hg h0
      by_cases hkN : k < N
      · obtain ⟨x0, x1⟩ := HX2.out wr HG.out k (by have := HNl.out; omega)
        obtain rfl := HA2.out (by omega)
        have HN2 : Hid ((l.getD k (Na.e0, Na.e0)).2.size ≤ 100 → ∀ j, j < k + 1 → (l.getD j (Na.e0, Na.e0)).2.size ≤ 100) := Lib.hid (fun hs j hj => by
          rcases Nat.lt_or_ge j k with h | h
          · exact H0.out j h
          · obtain rfl : j = k := by omega
            exact hs)
        generalize (l.getD k (Na.e0, Na.e0)).1 = p1 at *
        generalize (l.getD k (Na.e0, Na.e0)).2 = p2 at *
        have hcs : (100 < p1.size) ∨ (¬ 100 < p1.size ∧ 100 < p2.size) ∨ (¬ 100 < p1.size ∧ ¬ 100 < p2.size) := by omega
        rcases hcs with h1 | ⟨h1, h2⟩ | ⟨h1, h2⟩
        · go_wp2
          go_ret
          exact ⟨rfl, grown_alloc HG.out _⟩
        · go_wp2
          go_ret
          exact ⟨rfl, grown_alloc HG.out _⟩
        · have HN3 := Lib.hid (HN2.out (by omega))
          go_wp2
          go_roundw
          case rel => exact ⟨k + 1, by omega, by go_num, grown_alloc HG.out _, HN3.out⟩
          case measure => simp [intOf] <;> omega
      · obtain rfl : k = N := by omega
        have hsz : ∀ p ∈ l, p.2.size ≤ 900 := fun p hp => by
          obtain ⟨j, hj, rfl⟩ := List.getElem_of_mem hp
          have := H0.out j (by have := HNl.out; omega)
          rw [List.getD_eq_getElem?_getD, List.getElem?_eq_getElem hj] at this
          have h3 : l[j].2.size ≤ 100 := by simpa using this
          omega
        have hlN := HNl.out
        have hPv := HP.out
        have hofs := fun W (hg : w.grownBy W none) => of9_any A (.slice a2 k c2) l W (hPv.grown hg) (by omega) hsz (HW.out.grown hg) ⟨err_name (HE.out.grown hg)⟩
        have hros := fun W (hg : w.grownBy W none) => refOf9_any (.slice a2 k c2) l W (hPv.grown hg) (by omega) hsz
        have hpas := fun W (hg : w.grownBy W none) => parse9_any A t (by omega) W (HW.out.grown hg) ⟨err_name (HE.out.grown hg)⟩
        have hrps := fun W => refParse9_any t (by omega) W
        have HNm := Lib.hid (fun W (hg : w.grownBy W none) => num_of A 9 (by decide) W (HE.out.grown hg))
        rw [show errOf A 9 = errV A 9 from rfl] at HNm
        unfold OfV at hofs
        clear hsz hlN hPv H0
        by_cases hC : IsS l
        · simp only [if_pos (show Na.right (Na.s0 l) = true ∧ Na.parts (Na.s0 l) = l from hC)] at hofs
          have HOf := Lib.hid hofs
          have HRO := Lib.hid (fun W hg => (hros W hg).mono (fun e w' h => And.intro (ro_yes h.1 hC) h.2))
          clear hofs hros
          by_cases hD : Na.right (Na.p0 t) = true
          · simp only [if_pos hD] at hpas
            have HPa := Lib.hid hpas
            have HRP := Lib.hid (fun W => (hrps W).mono (fun e w' h => And.intro (rp_yes h.1 hD) h.2))
            clear hpas hrps hC hD
            obtain ⟨x1, x2, x3, hs1⟩ : ∃ a b c, Na.val (Na.s0 l) = .agg #[.int .i64 a, .string b, .string c] := ⟨_, _, _, rfl⟩
            simp only [hs1] at HOf HRO
            clear hs1
            obtain ⟨y1, y2, y3, hs2⟩ : ∃ a b c, Na.val (Na.p0 t) = .agg #[.int .i64 a, .string b, .string c] := ⟨_, _, _, rfl⟩
            simp only [hs2] at HPa HRP
            clear hs2
            go_wp2_with (first
              | (go_at_call 6; refine (HOf.out _ HG.out).mono ?_; rintro e wa ⟨rfl, hga⟩; have HGA := Lib.hid (grown_trans HG.out hga); have R1 := Lib.hid (alloc_at wa (.cells #[.int .i64 x1, .string x2, .string x3] 27)); clear hga)
              | (go_at_call 7; refine (HRO.out _ (grown_alloc HGA.out _)).mono ?_; rintro e wb ⟨rfl, hgb⟩; have HGB := Lib.hid (grown_trans (grown_alloc HGA.out _) hgb); have R2 := Lib.hid (alloc_keep (o := .cells #[.int .i64 x1, .string x2, .string x3] 27) (hold_blk R1.out hgb)); have R3 := Lib.hid (alloc_at wb (.cells #[.int .i64 x1, .string x2, .string x3] 27)); clear hgb)
              | (refine wpList_load_row (by rfl) 27 (.tmp 7) (by rfl) wa.heap.size (by rfl) 27 #[.int .i64 x1, .string x2, .string x3] (0, 0) _ R2.out Tryd.underlying27 rfl hI ?_)
              | (refine wpList_load_row (by rfl) 27 (.tmp 9) (by rfl) wb.heap.size (by rfl) 27 #[.int .i64 x1, .string x2, .string x3] (0, 0) _ R3.out Tryd.underlying27 rfl hI ?_)
              | (go_at_call 9; refine (HPa.out _ (grown_alloc HGB.out _)).mono ?_; rintro e wd ⟨rfl, hgd⟩; have HGD := Lib.hid (grown_trans (grown_alloc HGB.out _) hgd); have S1 := Lib.hid (alloc_at wd (.cells #[.int .i64 y1, .string y2, .string y3] 27)); clear hgd)
              | (go_at_call 10; refine (HRP.out _).mono ?_; rintro e we ⟨rfl, hge⟩; have HGE := Lib.hid (grown_trans (grown_alloc HGD.out _) hge); have S2 := Lib.hid (alloc_keep (o := .cells #[.int .i64 y1, .string y2, .string y3] 27) (hold_blk S1.out hge)); have S3 := Lib.hid (alloc_at we (.cells #[.int .i64 y1, .string y2, .string y3] 27)); clear hge)
              | (refine wpList_load_row (by rfl) 27 (.tmp 11) (by rfl) wd.heap.size (by rfl) 27 #[.int .i64 y1, .string y2, .string y3] (0, 0) _ S2.out Tryd.underlying27 rfl hI ?_)
              | (refine wpList_load_row (by rfl) 27 (.tmp 12) (by rfl) we.heap.size (by rfl) 27 #[.int .i64 y1, .string y2, .string y3] (0, 0) _ S3.out Tryd.underlying27 rfl hI ?_))
            go_ret
            exact ⟨rfl, grown_alloc HGE.out _⟩
          · simp only [if_neg hD] at hpas
            have HPa := Lib.hid hpas
            have HRP := Lib.hid (fun W => (hrps W).mono (fun e w' h => And.intro (rp_no h.1 hD) h.2))
            clear hpas hrps hC hD
            obtain ⟨x1, x2, x3, hs1⟩ : ∃ a b c, Na.val (Na.s0 l) = .agg #[.int .i64 a, .string b, .string c] := ⟨_, _, _, rfl⟩
            simp only [hs1] at HOf HRO
            clear hs1
            unfold Na.val Na.e0 at HPa HRP
            simp only at HPa HRP
            go_wp2_with (first
              | (go_at_call 6; refine (HOf.out _ HG.out).mono ?_; rintro e wa ⟨rfl, hga⟩; have HGA := Lib.hid (grown_trans HG.out hga); have R1 := Lib.hid (alloc_at wa (.cells #[.int .i64 x1, .string x2, .string x3] 27)); clear hga)
              | (go_at_call 7; refine (HRO.out _ (grown_alloc HGA.out _)).mono ?_; rintro e wb ⟨rfl, hgb⟩; have HGB := Lib.hid (grown_trans (grown_alloc HGA.out _) hgb); have R2 := Lib.hid (alloc_keep (o := .cells #[.int .i64 x1, .string x2, .string x3] 27) (hold_blk R1.out hgb)); have R3 := Lib.hid (alloc_at wb (.cells #[.int .i64 x1, .string x2, .string x3] 27)); clear hgb)
              | (refine wpList_load_row (by rfl) 27 (.tmp 7) (by rfl) wa.heap.size (by rfl) 27 #[.int .i64 x1, .string x2, .string x3] (0, 0) _ R2.out Tryd.underlying27 rfl hI ?_)
              | (refine wpList_load_row (by rfl) 27 (.tmp 9) (by rfl) wb.heap.size (by rfl) 27 #[.int .i64 x1, .string x2, .string x3] (0, 0) _ R3.out Tryd.underlying27 rfl hI ?_)
              | (go_at_call 9; refine (HPa.out _ (grown_alloc HGB.out _)).mono ?_; rintro e wd ⟨rfl, hgd⟩; have HGD := Lib.hid (grown_trans (grown_alloc HGB.out _) hgd); have S1 := Lib.hid (alloc_at wd (.cells #[.int .i64 0, .string ⟨#[]⟩, .string ⟨#[]⟩] 27)); clear hgd)
              | (go_at_call 10; refine (HRP.out _).mono ?_; rintro e we ⟨rfl, hge⟩; have HGE := Lib.hid (grown_trans (grown_alloc HGD.out _) hge); have S2 := Lib.hid (alloc_keep (o := .cells #[.int .i64 0, .string ⟨#[]⟩, .string ⟨#[]⟩] 27) (hold_blk S1.out hge)); have S3 := Lib.hid (alloc_at we (.cells #[.int .i64 0, .string ⟨#[]⟩, .string ⟨#[]⟩] 27)); clear hge)
              | (refine wpList_load_row (by rfl) 27 (.tmp 11) (by rfl) wd.heap.size (by rfl) 27 #[.int .i64 0, .string ⟨#[]⟩, .string ⟨#[]⟩] (0, 0) _ S2.out Tryd.underlying27 rfl hI ?_)
              | (refine wpList_load_row (by rfl) 27 (.tmp 12) (by rfl) we.heap.size (by rfl) 27 #[.int .i64 0, .string ⟨#[]⟩, .string ⟨#[]⟩] (0, 0) _ S3.out Tryd.underlying27 rfl hI ?_)
              | (go_at_call 8; with_reducible refine (HNm.out _ (grown_alloc HGE.out _)).mono ?_; rintro e wf ⟨rfl, hgf⟩; have HGF := Lib.hid (grown_trans (grown_alloc HGE.out _) hgf); clear hgf))
            go_ret
            exact ⟨rfl, HGF.out⟩
        · simp only [if_neg (show ¬ (Na.right (Na.s0 l) = true ∧ Na.parts (Na.s0 l) = l) from hC)] at hofs
          have HOf := Lib.hid hofs
          have HRO := Lib.hid (fun W hg => (hros W hg).mono (fun e w' h => And.intro (ro_no h.1 hC) h.2))
          clear hofs hros
          by_cases hD : Na.right (Na.p0 t) = true
          · simp only [if_pos hD] at hpas
            have HPa := Lib.hid hpas
            have HRP := Lib.hid (fun W => (hrps W).mono (fun e w' h => And.intro (rp_yes h.1 hD) h.2))
            clear hpas hrps hC hD
            unfold Na.val Na.e0 at HOf HRO
            simp only at HOf HRO
            obtain ⟨y1, y2, y3, hs2⟩ : ∃ a b c, Na.val (Na.p0 t) = .agg #[.int .i64 a, .string b, .string c] := ⟨_, _, _, rfl⟩
            simp only [hs2] at HPa HRP
            clear hs2
            go_wp2_with (first
              | (go_at_call 6; refine (HOf.out _ HG.out).mono ?_; rintro e wa ⟨rfl, hga⟩; have HGA := Lib.hid (grown_trans HG.out hga); have R1 := Lib.hid (alloc_at wa (.cells #[.int .i64 0, .string ⟨#[]⟩, .string ⟨#[]⟩] 27)); clear hga)
              | (go_at_call 7; refine (HRO.out _ (grown_alloc HGA.out _)).mono ?_; rintro e wb ⟨rfl, hgb⟩; have HGB := Lib.hid (grown_trans (grown_alloc HGA.out _) hgb); have R2 := Lib.hid (alloc_keep (o := .cells #[.int .i64 0, .string ⟨#[]⟩, .string ⟨#[]⟩] 27) (hold_blk R1.out hgb)); have R3 := Lib.hid (alloc_at wb (.cells #[.int .i64 0, .string ⟨#[]⟩, .string ⟨#[]⟩] 27)); clear hgb)
              | (refine wpList_load_row (by rfl) 27 (.tmp 7) (by rfl) wa.heap.size (by rfl) 27 #[.int .i64 0, .string ⟨#[]⟩, .string ⟨#[]⟩] (0, 0) _ R2.out Tryd.underlying27 rfl hI ?_)
              | (refine wpList_load_row (by rfl) 27 (.tmp 9) (by rfl) wb.heap.size (by rfl) 27 #[.int .i64 0, .string ⟨#[]⟩, .string ⟨#[]⟩] (0, 0) _ R3.out Tryd.underlying27 rfl hI ?_)
              | (go_at_call 8; with_reducible refine (HNm.out _ (grown_alloc HGB.out _)).mono ?_; rintro e wc ⟨rfl, hgc⟩; have HGC := Lib.hid (grown_trans (grown_alloc HGB.out _) hgc); clear hgc)
              | (go_at_call 9; refine (HPa.out _ HGC.out).mono ?_; rintro e wd ⟨rfl, hgd⟩; have HGD := Lib.hid (grown_trans HGC.out hgd); have S1 := Lib.hid (alloc_at wd (.cells #[.int .i64 y1, .string y2, .string y3] 27)); clear hgd)
              | (go_at_call 10; refine (HRP.out _).mono ?_; rintro e we ⟨rfl, hge⟩; have HGE := Lib.hid (grown_trans (grown_alloc HGD.out _) hge); have S2 := Lib.hid (alloc_keep (o := .cells #[.int .i64 y1, .string y2, .string y3] 27) (hold_blk S1.out hge)); have S3 := Lib.hid (alloc_at we (.cells #[.int .i64 y1, .string y2, .string y3] 27)); clear hge)
              | (refine wpList_load_row (by rfl) 27 (.tmp 11) (by rfl) wd.heap.size (by rfl) 27 #[.int .i64 y1, .string y2, .string y3] (0, 0) _ S2.out Tryd.underlying27 rfl hI ?_)
              | (refine wpList_load_row (by rfl) 27 (.tmp 12) (by rfl) we.heap.size (by rfl) 27 #[.int .i64 y1, .string y2, .string y3] (0, 0) _ S3.out Tryd.underlying27 rfl hI ?_))
            go_ret
            exact ⟨rfl, grown_alloc HGE.out _⟩
          · simp only [if_neg hD] at hpas
            have HPa := Lib.hid hpas
            have HRP := Lib.hid (fun W => (hrps W).mono (fun e w' h => And.intro (rp_no h.1 hD) h.2))
            clear hpas hrps hC hD
            unfold Na.val Na.e0 at HOf HRO
            simp only at HOf HRO
            unfold Na.val Na.e0 at HPa HRP
            simp only at HPa HRP
            go_wp2_with (first
              | (go_at_call 6; refine (HOf.out _ HG.out).mono ?_; rintro e wa ⟨rfl, hga⟩; have HGA := Lib.hid (grown_trans HG.out hga); have R1 := Lib.hid (alloc_at wa (.cells #[.int .i64 0, .string ⟨#[]⟩, .string ⟨#[]⟩] 27)); clear hga)
              | (go_at_call 7; refine (HRO.out _ (grown_alloc HGA.out _)).mono ?_; rintro e wb ⟨rfl, hgb⟩; have HGB := Lib.hid (grown_trans (grown_alloc HGA.out _) hgb); have R2 := Lib.hid (alloc_keep (o := .cells #[.int .i64 0, .string ⟨#[]⟩, .string ⟨#[]⟩] 27) (hold_blk R1.out hgb)); have R3 := Lib.hid (alloc_at wb (.cells #[.int .i64 0, .string ⟨#[]⟩, .string ⟨#[]⟩] 27)); clear hgb)
              | (refine wpList_load_row (by rfl) 27 (.tmp 7) (by rfl) wa.heap.size (by rfl) 27 #[.int .i64 0, .string ⟨#[]⟩, .string ⟨#[]⟩] (0, 0) _ R2.out Tryd.underlying27 rfl hI ?_)
              | (refine wpList_load_row (by rfl) 27 (.tmp 9) (by rfl) wb.heap.size (by rfl) 27 #[.int .i64 0, .string ⟨#[]⟩, .string ⟨#[]⟩] (0, 0) _ R3.out Tryd.underlying27 rfl hI ?_)
              | (go_at_call 8; with_reducible refine (HNm.out _ (grown_alloc HGB.out _)).mono ?_; rintro e wc ⟨rfl, hgc⟩; have HGC := Lib.hid (grown_trans (grown_alloc HGB.out _) hgc); clear hgc)
              | (go_at_call 9; refine (HPa.out _ HGC.out).mono ?_; rintro e wd ⟨rfl, hgd⟩; have HGD := Lib.hid (grown_trans HGC.out hgd); have S1 := Lib.hid (alloc_at wd (.cells #[.int .i64 0, .string ⟨#[]⟩, .string ⟨#[]⟩] 27)); clear hgd)
              | (go_at_call 10; refine (HRP.out _).mono ?_; rintro e we ⟨rfl, hge⟩; have HGE := Lib.hid (grown_trans (grown_alloc HGD.out _) hge); have S2 := Lib.hid (alloc_keep (o := .cells #[.int .i64 0, .string ⟨#[]⟩, .string ⟨#[]⟩] 27) (hold_blk S1.out hge)); have S3 := Lib.hid (alloc_at we (.cells #[.int .i64 0, .string ⟨#[]⟩, .string ⟨#[]⟩] 27)); clear hge)
              | (refine wpList_load_row (by rfl) 27 (.tmp 11) (by rfl) wd.heap.size (by rfl) 27 #[.int .i64 0, .string ⟨#[]⟩, .string ⟨#[]⟩] (0, 0) _ S2.out Tryd.underlying27 rfl hI ?_)
              | (refine wpList_load_row (by rfl) 27 (.tmp 12) (by rfl) we.heap.size (by rfl) 27 #[.int .i64 0, .string ⟨#[]⟩, .string ⟨#[]⟩] (0, 0) _ S3.out Tryd.underlying27 rfl hI ?_)
              | (go_at_call 8; with_reducible refine (HNm.out _ (grown_alloc HGE.out _)).mono ?_; rintro e wf ⟨rfl, hgf⟩; have HGF := Lib.hid (grown_trans (grown_alloc HGE.out _) hgf); clear hgf))
            go_ret
            exact ⟨rfl, HGF.out⟩
end Go.Proofs.YtepjjgplnmkjgaaDoor
