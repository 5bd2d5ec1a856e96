/- The walks of tlv's within, levels, Check and Depth. -/
import Derived.Test.YtndgbhgalablfaaDoorTl5
namespace Go.Proofs.YtndgbhgalablfaaDoor
open Go.RowKit

/-- What within and levels answer. -/
def LvPost (A : Nat → Addr) (r : Except Nat Nat) (e : Ending) : Prop :=
  match r with
  | .error k => e = .returned (.tuple #[.int .i64 0, errV A k])
  | .ok d => e = .returned (.tuple #[.int .i64 d, .nilIface])
def lenOf : Value → Nat
  | .slice _ n _ => n
  | _ => 0

def plus1 : Except Nat Nat → Except Nat Nat
  | .error e => .error e
  | .ok d => .ok (1 + d)
theorem within_made (L t : Nat) (l : List Nat) (h : Tl.made (t : Int) = true) : Tl.within (L + 1) t l = plus1 (Tl.loop (Tl.within L) (decide (L = 0)) (decide (t = 49)) l.length l [] 0) := by
  rw [Tl.within, if_pos h]
  generalize Tl.loop (Tl.within L) (decide (L = 0)) (decide (t = 49)) l.length l [] 0 = r
  cases r <;> rfl
theorem loop_le {rec : Nat → List Nat → Except Nat Nat} {one set : Bool} {K : Nat} (hr : ∀ t b m, rec t b = .ok m → m ≤ K) : ∀ (f : Nat) (b a : List Nat) (d m : Nat), d ≤ K → Tl.loop rec one set f b a d = .ok m → m ≤ K
  | 0, b, a, d, m, hd, h => by rw [Tl.loop] at h; cases h; exact hd
  | f + 1, b, a, d, m, hd, h => by
    rw [Tl.loop] at h
    split at h
    · cases h; exact hd
    · split at h
      · cases h
      · split at h
        · cases h
        · split at h
          · cases h
          · rename_i hrec
            split at h
            · cases h
            · exact loop_le hr f _ _ _ m (Nat.max_le.2 ⟨hd, hr _ _ _ hrec⟩) h
theorem within_le : ∀ (left t : Nat) (b : List Nat) (m : Nat), Tl.within left t b = .ok m → m ≤ left
  | 0, t, b, m, h => by cases h
  | L + 1, t, b, m, h => by
    rw [Tl.within] at h
    split at h
    · split at h
      · cases h
      · rename_i hlo
        have := loop_le (within_le L) _ _ _ _ _ (Nat.zero_le _) hlo
        cases h
        omega
    · cases h; omega

set_option maxRecDepth 100000 in
set_option maxHeartbeats 2000000 in
theorem within_any (A : Nat → Addr) : ∀ (left : Nat), 1 ≤ left → left ≤ 16 → ∀ (t : Nat) (v : Value) (l : List Nat) (w : World), Bytes w v l → Whole0 v → l.length ≤ 1099511620000 → AllErrs w A →
    Calls Tryd.prog 63 #[.agg #[.int .i64 t, v], .int .i64 left] w fun e w' => LvPost A (Tl.within left t l) e ∧ w.grownBy w' none
  | 0, h, _ => absurd h (by decide)
  | L + 1, _, hL => by
    intro t v l w hB h0 hl hE
    have IH := within_any A L
    have hM := made_any (t : Int)
    cases hm : Tl.made (t : Int) with
    | false =>
      have HX : Hid (Tl.within (L + 1) t l = .ok 1) := Lib.hid (by rw [Tl.within, if_neg (by rw [hm]; simp)])
      rw [hm] at hM
      have HM := Lib.hid hM
      clear hM hB h0 hE hm IH
      go_enter Tryd.func63, Tryd.ntmps63
      go_wp2_with (go_at_call 31; refine (HM.out _).mono ?_; rintro e w2 ⟨rfl, rfl⟩)
      go_ret2
      exact ⟨by rw [HX.out]; rfl, World.grownBy_alloc _ _ _⟩
    | true =>
      obtain ⟨R, hR⟩ : ∃ R, R = Tl.loop (Tl.within L) (decide (L = 0)) (decide (t = 49)) l.length l [] 0 := ⟨_, rfl⟩
      have HX : Hid (Tl.within (L + 1) t l = plus1 R) := Lib.hid (by rw [hR]; exact within_made L t l hm)
      rw [hm] at hM
      have HM := Lib.hid hM
      have HRR := Lib.hid hR
      obtain ⟨w1, hw1⟩ : ∃ w1, w1 = w.alloc (.cells #[.int .i64 t, v] 46) := ⟨_, rfl⟩
      have G1 : Hid (w.grownBy w1 none) := Lib.hid (by rw [hw1]; exact World.grownBy_alloc _ _ _)
      have hb1 : w1.heap[w.heap.size]? = some (.cells #[.int .i64 t, v] 46 (0, 0)) := by rw [hw1]; exact alloc_at _ _
      have HB := Lib.hid (hB.grown G1.out)
      have H0 := Lib.hid h0
      have HE := Lib.hid (hE.grown G1.out)
      have HW1 := Lib.hid hw1
      obtain ⟨g, hg⟩ : ∃ g, g = w.heap.size := ⟨_, rfl⟩
      rw [← hg] at hb1
      have HG := Lib.hid hg
      have HB1 := Lib.hid hb1
      have HIH := Lib.hid IH
      obtain ⟨_, va, vsb, vso, vc, rfl, _⟩ := hB
      obtain ⟨n, hn⟩ : ∃ n, n = l.length := ⟨_, rfl⟩
      have HN := Lib.hid hn
      rw [← hn] at HB H0 HW1 HB1 hl ⊢
      have s0 := cell_blk HB1.out 0 rfl
      have s1 := cell_blk HB1.out 1 rfl
      clear hw1 hb1 hg h0 hE hm IH hM hR hn
      go_enter Tryd.func63, Tryd.ntmps63
      go_wp2_with (go_at_call 31; rw [← HW1.out, ← HG.out]; refine (HM.out _).mono ?_; rintro e w2 ⟨rfl, hw2⟩; have hw2' := hw2.symm; subst hw2'; clear hw2)
      go_loopw [6, 7, 8] (fun d ah b wr => ∃ (dn f : Nat) (al bl : List Nat) (aa : Option Addr) (am ac : Nat) (ba : Option Addr) (bm bc : Nat), d = .int .i64 dn ∧ dn ≤ L ∧ ah = .slice aa am ac ∧ b = .slice ba bm bc ∧ Bytes wr (.slice aa am ac) al ∧ Whole0 (.slice aa am ac) ∧ Bytes wr (.slice ba bm bc) bl ∧ Whole0 (.slice ba bm bc) ∧
        bl.length ≤ f ∧ bl.length ≤ 1099511620000 ∧ Tl.loop (Tl.within L) (decide (L = 0)) (decide (t = 49)) f bl al dn = R ∧ w1.grownBy wr none) (fun _ _ b _ => lenOf b)
      case atStart =>
        exact ⟨0, l.length, [], l, none, 0, 0, va, n, vc, rfl, Nat.zero_le _, rfl, rfl, ⟨by simp, none, 0, 0, 0, rfl, Nat.le_refl _, fun h => absurd h (Nat.lt_irrefl _), fun j hj => absurd hj (Nat.not_lt_zero _)⟩, fun n c e => (by cases e; exact ⟨rfl, rfl⟩), HB.out, H0.out, Nat.le_refl _, by rw [← HN.out]; exact hl, HRR.out.symm, grown_refl _ _⟩
      case round =>
        obtain ⟨dn, f, al, bl, aa, am, ac, ba, bm, bc, rfl, hdn, rfl, rfl, hAl, hA0, hBl, hB0, hf, hbl, hloop, hgr⟩ := hrel
        have hbm := hBl.cap.1
        have hbc := hBl.cap.2
        have HAl := Lib.hid hAl
        have HA0 := Lib.hid hA0
        have HBl := Lib.hid hBl
        have HB0 := Lib.hid hB0
        have HLo := Lib.hid hloop
        have HGr := Lib.hid hgr
        clear s0 s1
        have s0 : wr.cell? ⟨g, 0, none⟩ = some (.int .i64 (t : Int)) := by rw [World.cell?_of_block (hgr.block _ (blk_lt HB1.out) (by simp))]; exact cell_blk HB1.out 0 rfl
        clear hAl hA0 hBl hB0 hloop hgr
        by_cases hb0 : bm = 0
        · subst hb0
          have hbl0 : bl = [] := List.eq_nil_of_length_eq_zero hbm.symm
          have HR : Hid (R = .ok dn) := Lib.hid (by rw [← HLo.out, hbl0]; cases f <;> simp [Tl.loop])
          clear hf hbl hbm hbl0
          go_wp2
          go_ret2
          exact ⟨by rw [HX.out, HR.out]; simp [LvPost, plus1], grown_trans G1.out HGr.out⟩
        · obtain ⟨f', rfl⟩ : ∃ f', f = f' + 1 := ⟨f - 1, by omega⟩
          have hne : ¬ bl = [] := fun h => hb0 (by rw [hbm, h]; rfl)
          have HF := Lib.hid (tlvFirst_any A _ bl wr HBl.out HB0.out (by omega) (HE.out.grown HGr.out))
          have hbmx : bm ≤ 1099511620000 := by omega
          have HBM := Lib.hid hbm
          have HFL := Lib.hid hf
          clear hbm hf hbl
          have d0 : decide ((0 : Int) < (bm : Int)) = true := decide_eq_true (by omega)
          cases hfst : Tl.first bl with
          | error k =>
            have HR : Hid (R = .error k) := Lib.hid (by rw [← HLo.out, Tl.loop, if_neg hne, hfst])
            rw [hfst] at HF
            clear hfst hne
            go_wp2_with (go_at_call 43; refine HF.out.mono ?_; rintro e w2 ⟨rfl, hg2⟩; have HG2 := Lib.hid hg2; clear hg2)
            go_ret2
            exact ⟨by rw [HX.out, HR.out]; simp [LvPost, plus1], grown_trans G1.out (grown_trans HGr.out (grown_alloc HG2.out _))⟩
          | ok p =>
            obtain ⟨t', i, n'⟩ := p
            obtain ⟨q, hq⟩ : ∃ q, q = i + n' := ⟨_, rfl⟩
            have HQ := Lib.hid hq
            have HQP := Lib.hid (show 2 ≤ q from by rw [hq]; exact Nat.le_trans (Tl.first_two hfst) (Nat.le_add_right _ _))
            clear hq
            have HL1 : Hid (R = if decide (L = 0) then .error 6 else match Tl.within L t' ((bl.drop i).take n') with
                | .error e => .error e
                | .ok m => if decide (t = 49) && decide (Tl.cmpB (bl.take q) al < 0) then .error 7 else Tl.loop (Tl.within L) (decide (L = 0)) (decide (t = 49)) f' (bl.drop q) (bl.take q) (max dn m)) := Lib.hid (by
              rw [← HLo.out, Tl.loop, if_neg hne, hfst, HQ.out]
              rfl)
            rw [hfst] at HF
            clear hfst hne
            have HED : Hid (∀ W, wr.grownBy W none → W.cell? ⟨6, 0, none⟩ = some (errV A 6) ∧ W.cell? ⟨7, 0, none⟩ = some (errV A 7)) := Lib.hid (fun W hW => by
              have hEE := HE.out.grown (grown_trans HGr.out hW)
              have e6 := errs_at hEE 6 (by decide)
              have e7 := errs_at hEE 7 (by decide)
              simp only [errVars, List.getD_cons_zero, List.getD_cons_succ, Nat.add_one_sub_one] at e6 e7
              exact ⟨e6, e7⟩)
            by_cases hL0 : L = 0
            · subst hL0
              have HR : Hid (R = .error 6) := Lib.hid (by rw [HL1.out]; rfl)
              clear HL1 HIH
              go_wp2_with (go_at_call 43; refine HF.out.mono ?_; rintro e w2 ⟨⟨ab, cb, ar, m, cr, hlen, rfl, hp1, W1, hp2, W2⟩, hg2⟩; have HG2 := Lib.hid hg2; have eD := fun o => (HED.out (w2.alloc o) (grown_alloc hg2 o)).1; clear hg2 hlen hp1 hp2 W1 W2)
              go_quiet (fail)
              go_wp2
              go_ret2
              exact ⟨by rw [HX.out, HR.out]; simp [LvPost, plus1], grown_trans G1.out (grown_trans HGr.out (grown_drewN (grown_alloc HG2.out _) _))⟩
            · have d1 : (((L : Int) + 1) == 1) = false := by simp; omega
              obtain ⟨r', hr'⟩ : ∃ r', r' = Tl.within L t' ((bl.drop i).take n') := ⟨_, rfl⟩
              have hle := within_le L t' ((bl.drop i).take n')
              rw [← hr'] at HL1 hle
              have HI : Hid (∀ (W : World) ab cb, wr.grownBy W none → Bytes W (.slice ab n' cb) ((bl.drop i).take n') → Whole0 (.slice ab n' cb) → Calls Tryd.prog 63 #[.agg #[.int .i64 t', .slice ab n' cb], .int .i64 L] W fun e w' => LvPost A r' e ∧ W.grownBy w' none) := Lib.hid (fun W ab cb hW hb h0 => by
                rw [hr']
                exact HIH.out (by omega) (by omega) t' _ _ W hb h0 (by rw [List.length_take, List.length_drop, ← HBM.out]; omega) (HE.out.grown (grown_trans HGr.out hW)))
              have HLE := Lib.hid hle
              clear HIH hr' hle
              cases r' with
              | error k =>
                have HR : Hid (R = .error k) := Lib.hid (by rw [HL1.out, if_neg (by simpa using hL0)])
                clear HL1
                go_wp2_with (first
                  | (go_at_call 43; refine HF.out.mono ?_; rintro e w2 ⟨⟨ab, cb, ar, m, cr, hlen, rfl, hp1, W1, hp2, W2⟩, hg2⟩; have HG2 := Lib.hid hg2; have HP1 := Lib.hid hp1; have HW1' := Lib.hid W1; clear hg2 hlen hp1 hp2 W1 W2)
                  | (go_at_call 63; refine (HI.out _ ab cb (grown_alloc HG2.out _) (HP1.out _ (HBl.out.grown (grown_alloc HG2.out _))) HW1'.out).mono ?_; rintro e w4 ⟨rfl, hg4⟩; have HG4 := Lib.hid (grown_trans (grown_alloc HG2.out _) hg4); clear hg4))
                go_ret2
                exact ⟨by rw [HX.out, HR.out]; simp [LvPost, plus1], grown_trans G1.out (grown_trans HGr.out HG4.out)⟩
              | ok mm =>
                have hmm : mm ≤ L := HLE.out mm rfl
                have HL2 : Hid (R = if decide (t = 49) && decide (Tl.cmpB (bl.take q) al < 0) then .error 7 else Tl.loop (Tl.within L) (decide (L = 0)) (decide (t = 49)) f' (bl.drop q) (bl.take q) (max dn mm)) := Lib.hid (by rw [HL1.out, if_neg (by simpa using hL0)])
                clear HL1
                obtain ⟨c, hc⟩ : ∃ c, c = Tl.cmpB (bl.take q) al := ⟨_, rfl⟩
                have HC := Lib.hid hc
                by_cases h49 : t = 49
                · have d49 : ((t : Int) == 49) = true := by rw [h49]; rfl
                  rw [← hc] at HL2
                  by_cases hc0 : c < 0
                  · have HR : Hid (R = .error 7) := Lib.hid (by rw [HL2.out, if_pos (by simp [h49, hc0])])
                    clear HL2 hc h49
                    go_wp2_with (first
                      | (go_at_call 43; refine HF.out.mono ?_; rintro e w2 ⟨⟨ab, cb, ar, m, cr, hlen, rfl, hp1, W1, hp2, W2⟩, hg2⟩; have HG2 := Lib.hid hg2; have HP1 := Lib.hid hp1; have HW1' := Lib.hid W1; have HP2 := Lib.hid hp2; have HW2' := Lib.hid W2; have hqm : q + m = bm := (by have := HBM.out; have := HQ.out; omega); have e1 : (bm : Int) - (m : Int) = ((q : Nat) : Int) := (by omega); have hqc : q ≤ bc := (by omega); have HQM := Lib.hid hqm; clear hg2 hlen hp1 hp2 W1 W2 hqm)
                      | (go_at_call 63; refine (HI.out _ ab cb (grown_alloc HG2.out _) (HP1.out _ (HBl.out.grown (grown_alloc HG2.out _))) HW1'.out).mono ?_; rintro e w4 ⟨rfl, hg4⟩; have HG4 := Lib.hid (grown_trans (grown_alloc HG2.out _) hg4); have s4 : w4.cell? ⟨g, 0, none⟩ = some (.int .i64 (t : Int)) := (by rw [World.cell?_of_block ((grown_trans HGr.out HG4.out).block _ (blk_lt HB1.out) (by simp))]; exact cell_blk HB1.out 0 rfl); have eO := (HED.out w4 HG4.out).2; clear hg4)
                      | (go_at_call 73; refine (compare_any _ _ (bl.take q) al _ ((HBl.out.to q (by have := HQM.out; omega)).grown HG4.out) (HAl.out.grown HG4.out) (HB0.out.to q (by have := HQM.out; omega)) HA0.out).mono ?_; rw [← HC.out]; rintro e w5 ⟨rfl, hw5⟩; have hw5' := hw5.symm; subst hw5'; clear hw5))
                    go_quiet (fail)
                    go_wp2
                    go_ret2
                    exact ⟨by rw [HX.out, HR.out]; simp [LvPost, plus1], grown_trans G1.out (grown_trans HGr.out (grown_drewN HG4.out _))⟩
                  · have HRn : Hid (R = Tl.loop (Tl.within L) (decide (L = 0)) (decide (t = 49)) f' (bl.drop q) (bl.take q) (max dn mm)) := Lib.hid (by rw [HL2.out, if_neg (by simp [hc0])])
                    clear HL2 hc h49
                    go_wp2_with (first
                      | (go_at_call 43; refine HF.out.mono ?_; rintro e w2 ⟨⟨ab, cb, ar, m, cr, hlen, rfl, hp1, W1, hp2, W2⟩, hg2⟩; have HG2 := Lib.hid hg2; have HP1 := Lib.hid hp1; have HW1' := Lib.hid W1; have HP2 := Lib.hid hp2; have HW2' := Lib.hid W2; have hqm : q + m = bm := (by have := HBM.out; have := HQ.out; omega); have e1 : (bm : Int) - (m : Int) = ((q : Nat) : Int) := (by omega); have hqc : q ≤ bc := (by omega); have HQM := Lib.hid hqm; clear hg2 hlen hp1 hp2 W1 W2 hqm)
                      | (go_at_call 63; refine (HI.out _ ab cb (grown_alloc HG2.out _) (HP1.out _ (HBl.out.grown (grown_alloc HG2.out _))) HW1'.out).mono ?_; rintro e w4 ⟨rfl, hg4⟩; have HG4 := Lib.hid (grown_trans (grown_alloc HG2.out _) hg4); have s4 : w4.cell? ⟨g, 0, none⟩ = some (.int .i64 (t : Int)) := (by rw [World.cell?_of_block ((grown_trans HGr.out HG4.out).block _ (blk_lt HB1.out) (by simp))]; exact cell_blk HB1.out 0 rfl); have eO := (HED.out w4 HG4.out).2; clear hg4)
                      | (go_at_call 73; refine (compare_any _ _ (bl.take q) al _ ((HBl.out.to q (by have := HQM.out; omega)).grown HG4.out) (HAl.out.grown HG4.out) (HB0.out.to q (by have := HQM.out; omega)) HA0.out).mono ?_; rw [← HC.out]; rintro e w5 ⟨rfl, hw5⟩; have hw5' := hw5.symm; subst hw5'; clear hw5))
                    go_roundw
                    case rel =>
                      refine ⟨max dn mm, f', bl.take q, bl.drop q, _, _, _, _, _, _, ?_, Nat.max_le.2 ⟨hdn, hmm⟩, rfl, rfl, (HBl.out.to q (by have := HQM.out; omega)).grown HG4.out, HB0.out.to q (by have := HQM.out; omega), ?_, HW2'.out, ?_, ?_, HRn.out.symm, grown_trans HGr.out HG4.out⟩
                      · refine congrArg (Value.int IntKind.i64) ?_
                        omega
                      · have := (HP2.out _ HBl.out).grown HG4.out
                        rwa [← HQ.out] at this
                      · rw [List.length_drop, ← HBM.out]
                        have := HQP.out
                        have := HFL.out
                        have := HBM.out
                        omega
                      · rw [List.length_drop, ← HBM.out]
                        omega
                    case measure =>
                      have := HQP.out
                      have := HQM.out
                      simp [lenOf]
                      omega

                · have d49 : ((t : Int) == 49) = false := by simp; omega
                  have HRn : Hid (R = Tl.loop (Tl.within L) (decide (L = 0)) (decide (t = 49)) f' (bl.drop q) (bl.take q) (max dn mm)) := Lib.hid (by rw [HL2.out, if_neg (by simp [h49])])
                  clear HL2 hc h49
                  go_wp2_with (first
                    | (go_at_call 43; refine HF.out.mono ?_; rintro e w2 ⟨⟨ab, cb, ar, m, cr, hlen, rfl, hp1, W1, hp2, W2⟩, hg2⟩; have HG2 := Lib.hid hg2; have HP1 := Lib.hid hp1; have HW1' := Lib.hid W1; have HP2 := Lib.hid hp2; have HW2' := Lib.hid W2; have hqm : q + m = bm := (by have := HBM.out; have := HQ.out; omega); have e1 : (bm : Int) - (m : Int) = ((q : Nat) : Int) := (by omega); have hqc : q ≤ bc := (by omega); have HQM := Lib.hid hqm; clear hg2 hlen hp1 hp2 W1 W2 hqm)
                    | (go_at_call 63; refine (HI.out _ ab cb (grown_alloc HG2.out _) (HP1.out _ (HBl.out.grown (grown_alloc HG2.out _))) HW1'.out).mono ?_; rintro e w4 ⟨rfl, hg4⟩; have HG4 := Lib.hid (grown_trans (grown_alloc HG2.out _) hg4); have s4 : w4.cell? ⟨g, 0, none⟩ = some (.int .i64 (t : Int)) := (by rw [World.cell?_of_block ((grown_trans HGr.out HG4.out).block _ (blk_lt HB1.out) (by simp))]; exact cell_blk HB1.out 0 rfl); have eO := (HED.out w4 HG4.out).2; clear hg4))
                  go_roundw
                  case rel =>
                    refine ⟨max dn mm, f', bl.take q, bl.drop q, _, _, _, _, _, _, ?_, Nat.max_le.2 ⟨hdn, hmm⟩, rfl, rfl, (HBl.out.to q (by have := HQM.out; omega)).grown HG4.out, HB0.out.to q (by have := HQM.out; omega), ?_, HW2'.out, ?_, ?_, HRn.out.symm, grown_trans HGr.out HG4.out⟩
                    · refine congrArg (Value.int IntKind.i64) ?_
                      omega
                    · have := (HP2.out _ HBl.out).grown HG4.out
                      rwa [← HQ.out] at this
                    · rw [List.length_drop, ← HBM.out]
                      have := HQP.out
                      have := HFL.out
                      have := HBM.out
                      omega
                    · rw [List.length_drop, ← HBM.out]
                      omega
                  case measure =>
                    have := HQP.out
                    have := HQM.out
                    simp [lenOf]
                    omega

end Go.Proofs.YtndgbhgalablfaaDoor
