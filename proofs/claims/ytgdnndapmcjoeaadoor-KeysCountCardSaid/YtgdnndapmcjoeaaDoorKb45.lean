import Derived.Test.YtgdnndapmcjoeaaDoorKb43
import Derived.Test.YtgdnndapmcjoeaaDoorKb44
namespace Go.Proofs.YtgdnndapmcjoeaaDoor
open Go.RowKit Go.Maps
set_option linter.unusedVariables false
theorem C1.base {w wr : World} {b b6 b7 j : Nat} (h : C1 w b b6 b7 j wr) : w.grownBy wr none := by obtain ⟨F, gs, hP, _⟩ := h; exact hP.base
structure Sg where
  key : Int
  dom : ByteArray
  msg : List Nat
def Sg.zero : Sg := ⟨0, ⟨#[]⟩, []⟩
/-- What is signed, as it lies one behind the other. -/
def SgsAt (W : World) (sb so : Nat) (xs : List Sg) : Prop := ∀ i, i < xs.length → ∃ v, W.cell? ⟨sb, so + i * 3, none⟩ = some (.int .i64 (xs.getD i Sg.zero).key) ∧ W.cell? ⟨sb, so + i * 3 + 1, none⟩ = some (.string (xs.getD i Sg.zero).dom) ∧ W.cell? ⟨sb, so + i * 3 + 2, none⟩ = some v ∧
  Bytes W v (xs.getD i Sg.zero).msg ∧ Whole0 v
theorem kWrap {j : Nat} (hj : j < 3) : IntKind.u8.wrap ((j : Int) + 1) = ((j + 1 : Nat) : Int) := by
  obtain rfl | rfl | rfl : j = 0 ∨ j = 1 ∨ j = 2 := by omega
  all_goals rfl
theorem kOf_eq (x : Int) : wrap64 ((IntKind.u64.wrap x).tmod 3) = (kOf x : Int) := by
  have e : IntKind.u64.wrap x = x % 18446744073709551616 := rfl
  have h0 : 0 ≤ x % 18446744073709551616 := Int.emod_nonneg _ (by decide)
  rw [e, Int.tmod_eq_emod_of_nonneg h0]
  unfold kOf wrap64
  omega
theorem kStr {a b : ByteArray} (h : strL a = strL b) : a = b := by
  have := congrArg strOf h
  rwa [strOf_strL, strOf_strL] at this
theorem kBeq (a b : ByteArray) : decide (a = b) = (a.toList == b.toList) := by
  rw [str_beq, decide_eq_decide]
  exact ⟨fun h => by rw [h], kStr⟩
set_option maxRecDepth 100000 in
set_option maxHeartbeats 4000000 in
theorem keysCount_any (A : Nat → Addr) (a : Option Addr) (sb so n c : Nat) (xs : List Sg) (key : Int) (dom : ByteArray) (va : Option Addr) (vc : Nat) (msg : List Nat) (w : World) (hn : xs.length = n) (ha : 0 < n → a = some ⟨sb, so, none⟩ ∧ sb < w.heap.size) (hX : SgsAt w sb so xs) (hnb : n ≤ 9223372036854775807)
    (hB : Bytes w (.slice va msg.length vc) msg) (hB0 : Whole0 (.slice va msg.length vc)) (hml : msg.length ≤ 9223372036854775807) (hE : AllErrs w A) (hL : Laid w) :
    Calls Tryd.prog 5 #[.slice a n c, .agg #[.int .i64 key, .string dom, .slice va msg.length vc]] w fun e w' => e = .returned (.bool true) ∧ w.grownBy w' none := by
  have HAl : Hid (∀ W, w.grownBy W none → Calls Tryd.prog 7 #[] W fun e w' => e = .returned (.bool true) ∧ W.grownBy w' none) := Lib.hid (fun W hW => alive10_any A W (hE.grown hW) (hL.grown hW (by simp) (by simp)))
  obtain ⟨ml, hm⟩ : ∃ ml, ml = msg.length := ⟨_, rfl⟩
  have HM := Lib.hid hm
  have HB := Lib.hid hB
  have HB0 := Lib.hid hB0
  have HX := Lib.hid hX
  have HA := Lib.hid ha
  have HN := Lib.hid hn
  have HE := Lib.hid hE
  have HL := Lib.hid hL
  obtain ⟨w0, hw0⟩ : ∃ w0, w0 = w.alloc (.cells #[.int .i64 key, .string dom, .slice va msg.length vc] 55) := ⟨_, rfl⟩
  rw [← hm] at HB HB0 hml hw0 ⊢
  have HW0 := Lib.hid hw0
  have HG0 : Hid (w.grownBy w0 none) := Lib.hid (by rw [hw0]; exact World.grownBy_alloc _ _ _)
  have HBx : Hid (w0.heap[w.heap.size]? = some (.cells #[.int .i64 key, .string dom, .slice va ml vc] 55 (0, 0))) := Lib.hid (by rw [hw0]; exact alloc_at _ _)
  clear hB hB0 hX ha hn hE hL hw0 hm
  by_cases hi1 : (20 : Int) < (n : Int)
  · go_enter Tryd.func5, Tryd.ntmps5
    go_wp2_with (go_at_call 7; rw [← HW0.out]; refine (HAl.out w0 HG0.out).mono ?_; rintro e w1 ⟨rfl, hg1⟩; have HG1 := Lib.hid (grown_trans HG0.out hg1); clear hg1)
    go_ret
    exact ⟨rfl, HG1.out⟩
  by_cases hi2 : (100 : Int) < (dom.size : Int)
  · go_enter Tryd.func5, Tryd.ntmps5
    go_wp2_with (go_at_call 7; rw [← HW0.out]; refine (HAl.out w0 HG0.out).mono ?_; rintro e w1 ⟨rfl, hg1⟩; have HG1 := Lib.hid (grown_trans HG0.out hg1); have b1 := (hg1.block _ (blk_lt HBx.out) (by simp)).trans HBx.out; have c1 := cell_blk b1 1 rfl; clear b1 hg1)
    go_ret
    exact ⟨rfl, HG1.out⟩
  by_cases hi3 : (200 : Int) < (ml : Int)
  · go_enter Tryd.func5, Tryd.ntmps5
    go_wp2_with (go_at_call 7; rw [← HW0.out]; refine (HAl.out w0 HG0.out).mono ?_; rintro e w1 ⟨rfl, hg1⟩; have HG1 := Lib.hid (grown_trans HG0.out hg1); have b1 := (hg1.block _ (blk_lt HBx.out) (by simp)).trans HBx.out; have c1 := cell_blk b1 1 rfl; have c2 := cell_blk b1 2 rfl; clear b1 hg1)
    go_ret
    exact ⟨rfl, HG1.out⟩
  go_enter Tryd.func5, Tryd.ntmps5
  go_wp2_with (first
    | (go_at_call 7; rw [← HW0.out]; refine (HAl.out w0 HG0.out).mono ?_; rintro e w1 ⟨rfl, hg1⟩; have HG1 := Lib.hid (grown_trans HG0.out hg1); have b1 := (hg1.block _ (blk_lt HBx.out) (by simp)).trans HBx.out; have HB1 := Lib.hid b1; have c1 := cell_blk b1 1 rfl; have c2 := cell_blk b1 2 rfl; clear b1 hg1)
    | (go_at_call 14; refine (gnew_any w1).mono ?_; rintro e w2 ⟨rfl, hw2⟩; have P2 : Hid (PrG w1 (fun k => k = w1.heap.size) w1.heap.size Rg.none w2) := Lib.hid (by rw [hw2]; exact PrG.new (grown_refl _ _)); clear hw2))
  have HC0 := Lib.hid (C1.start P2.out _ _ rfl rfl)
  have HE1 := Lib.hid (HE.out.grown HG1.out)
  have HL1 := Lib.hid (HL.out.grown HG1.out (by simp) (by simp))
  go_loopw [42] (fun i wr => ∃ j : Nat, j ≤ 3 ∧ i = .int .i64 j ∧ C1 w1 w1.heap.size w2.heap.size (w2.heap.size + 1) j wr) (fun i _ => 3 - (intOf i).toNat)
  case atStart => exact ⟨0, by omega, rfl, HC0.out⟩
  case round =>
    obtain ⟨j, hj, rfl, hC⟩ := hrel
    by_cases hj3 : j < 3
    · obtain ⟨W1, hW1⟩ : ∃ W1, W1 = wr.alloc (.cells (bytesV noughts) 5) := ⟨_, rfl⟩
      obtain ⟨W2, hW2⟩ : ∃ W2, W2 = W1.setCell ⟨w2.heap.size + 1, j, none⟩ (.slice (some ⟨wr.heap.size, 0, none⟩) 32 32) := ⟨_, rfl⟩
      obtain ⟨W3, hW3⟩ : ∃ W3, W3 = W2.setCell ⟨wr.heap.size, 0, none⟩ (.int .u8 ((j : Int) + 1)) := ⟨_, rfl⟩
      obtain ⟨m1, m2, m3, m4, m5⟩ := hC.mid hj3 HE1.out HL1.out W1 W2 W3 _ hW1 rfl hW2 (by rw [hW3]; rfl)
      have H1 := Lib.hid hW1
      have H2 := Lib.hid hW2
      have H3 := Lib.hid hW3
      have M1 := Lib.hid m1
      have M3 := Lib.hid m3
      have M5 := Lib.hid m5
      have hkw := kWrap hj3
      have hmk := made32
      obtain ⟨I, hI⟩ : ∃ I, I = idK j := ⟨_, rfl⟩
      rw [← hI] at M5
      have hj' : (j : Int) < 3 := by omega
      clear hC m1 m3 m5 hW1 hW2 hW3 hI
      go_wp2_with (first
        | (refine wpList_store_c (by rfl) 22 (.tmp 47) (.tmp 46) (by rfl) (w2.heap.size + 1) j (.slice (some ⟨wr.heap.size, 0, none⟩) 32 32) (by rfl) (by rfl) (by rw [← H1.out]; exact M1.out) (by kernel_rfl) (by rfl) ?_; rw [← H1.out, ← H2.out])
        | (refine wpList_store_c (by rfl) 5 (.tmp 54) (.tmp 53) (by rfl) wr.heap.size 0 (.int .u8 ((j : Int) + 1)) (by rfl) (by rfl) M3.out (by kernel_rfl) (by rfl) ?_; rw [← H3.out])
        | (go_at_call 18; refine M5.out.mono ?_; rintro e w4 ⟨rfl, ht4, hC4⟩; have T4 := Lib.hid ht4; have C4 := Lib.hid hC4; clear ht4 hC4)
        | (refine wpList_store_c (by rfl) 9 (.tmp 67) (.tmp 66) (by rfl) w2.heap.size j (.string I) (by rfl) (by rfl) T4.out (by kernel_rfl) (by rfl) ?_))
      go_roundw
      case rel => exact ⟨j + 1, by omega, by go_num, C4.out⟩
      case measure => simp [intOf]; omega
    · obtain rfl : j = 3 := by omega
      clear hj3
      have hg := hC.base
      have b1 := (hg.block _ (blk_lt HB1.out) (by simp)).trans HB1.out
      have c0 : wr.cell? ⟨w.heap.size, 0, none⟩ = some (.int .i64 key) := cell_blk b1 0 rfl
      obtain ⟨gs, hC2⟩ := hC.done (kOf key) dom msg
      have HC2 := Lib.hid hC2
      clear hC hg b1 hC2 HC0
      have hk3 := kOf_lt key
      have HK3 := Lib.hid hk3
      go_wp2
      have hke := kOf_eq key
      rw [hke, show ((3 : Nat) : Int) = 3 from rfl]
      obtain ⟨k, hk⟩ : ∃ k, k = kOf key := ⟨_, rfl⟩
      rw [← hk] at HC2 HK3 ⊢
      clear hk3 hke hk c0
      go_loopw [12, 76] (fun bv i wr => ∃ (j : Nat) (was : Bool), j ≤ n ∧ i = .int .i64 j ∧ bv = .bool was ∧ C2 w1 w1.heap.size w2.heap.size (w2.heap.size + 1) gs k dom msg was wr) (fun _ i _ => n - (intOf i).toNat)
      case atStart => exact ⟨0, false, by omega, rfl, rfl, HC2.out⟩
      case round =>
        clear HC2
        obtain ⟨j, was, hj, rfl, rfl, hC⟩ := hrel
        have hgr := grown_trans HG1.out hC.base
        have HGr := Lib.hid hgr
        have HC := Lib.hid hC
        by_cases hjn : j < n
        · obtain ⟨rfl, hsbl⟩ := HA.out (by omega)
          obtain ⟨v, e0, e1, e2, e3, e4⟩ := HX.out j (by rw [HN.out]; exact hjn)
          obtain ⟨x, hx⟩ : ∃ x, x = xs.getD j Sg.zero := ⟨_, rfl⟩
          rw [← hx] at e0 e1 e3
          obtain ⟨ky, d, m⟩ := x
          have eg : ∀ o, wr.cell? ⟨sb, o, none⟩ = w.cell? ⟨sb, o, none⟩ := fun o => World.cell?_of_block (hgr.block sb hsbl (by simp))
          rw [← eg] at e0 e1 e2
          have hm8 := e3.lt
          have HBm := Lib.hid e3
          obtain ⟨_, xa, _, _, xc, rfl, _⟩ := e3
          obtain ⟨xl, hxl⟩ : ∃ xl, xl = m.length := ⟨_, rfl⟩
          have HXl := Lib.hid hxl
          have HB0m := Lib.hid e4
          have HB1' := Lib.hid ((HC.out.base.block _ (blk_lt HB1.out) (by simp)).trans HB1.out)
          dsimp only at e0 e1 e2 HBm HXl HB0m hxl hm8
          rw [← hxl] at e2 HBm HB0m
          have hsw : sb < wr.heap.size := Nat.lt_of_lt_of_le hsbl hgr.size
          clear hx eg e4 hxl hC hgr hsbl
          by_cases hd1 : (100 : Int) < (d.size : Int)
          · go_wp2
            go_ret
            exact ⟨rfl, grown_trans HGr.out (World.grownBy_alloc _ _ _)⟩
          by_cases hd2 : (200 : Int) < (xl : Int)
          · go_wp2
            go_ret
            exact ⟨rfl, grown_trans HGr.out (World.grownBy_alloc _ _ _)⟩
          go_wp2
          have hke2 := kOf_eq ky
          obtain ⟨q, hq⟩ : ∃ q, q = kOf ky := ⟨_, rfl⟩
          have HQ3 : Hid (q < 3) := Lib.hid (by rw [hq]; exact kOf_lt ky)
          rw [← hq] at hke2
          rw [hke2]
          clear hke2 hq
          obtain ⟨W4, hW4⟩ : ∃ W4, W4 = wr.alloc (.cells #[.int .i64 ky, .string d, .slice xa xl xc] 55) := ⟨_, rfl⟩
          rw [← hW4]
          have G4 : Hid (wr.grownBy W4 none) := Lib.hid (by rw [hW4]; exact World.grownBy_alloc _ _ _)
          have B4 : Hid (W4.heap[wr.heap.size]? = some (.cells #[.int .i64 ky, .string d, .slice xa xl xc] 55 (0, 0))) := Lib.hid (by rw [hW4]; exact alloc_at _ _)
          obtain ⟨I, hI⟩ : ∃ I, I = idK q := ⟨_, rfl⟩
          have d1 : W4.cell? ⟨wr.heap.size, 1, none⟩ = some (.string d) := cell_blk B4.out 1 rfl
          have d2 : W4.cell? ⟨wr.heap.size, 2, none⟩ = some (.slice xa xl xc) := cell_blk B4.out 2 rfl
          have i4 : W4.cell? ⟨w2.heap.size, q, none⟩ = some (.string I) := by rw [hI]; exact (HC.out.still G4.out).id HQ3.out
          have HI := Lib.hid hI
          have hq3' : (q : Int) < 3 := by have := HQ3.out; omega
          have HD := Lib.hid (show d.size ≤ 1000 by omega)
          have HMl := Lib.hid (show m.length ≤ 100000 by have := HXl.out; omega)
          obtain ⟨M, hM⟩ : ∃ M, M = strOf m := ⟨_, rfl⟩
          obtain ⟨X, hX⟩ : ∃ X, X = strOf msg := ⟨_, rfl⟩
          have HCm : Hid (∀ W, w.grownBy W none → (convert 22 9 (.slice xa xl xc)).run Tryd.prog W = .ok (.string M) W) := Lib.hid (fun W hW => by rw [hM]; exact conv_bytes (HBm.out.grown hW) _ 5 _ Tryd.underlying22 Tryd.underlying5 Tryd.underlying9)
          have HCa : Hid (∀ W, w.grownBy W none → (convert 22 9 (.slice va ml vc)).run Tryd.prog W = .ok (.string X) W) := Lib.hid (fun W hW => by rw [hX]; exact conv_bytes (HB.out.grown hW) _ 5 _ Tryd.underlying22 Tryd.underlying5 Tryd.underlying9)
          have HHt : Hid (hit q k d dom m msg = (decide (q = k) && ((d.toList == dom.toList) && (M.toList == X.toList)))) := Lib.hid (by unfold hit; rw [kBeq, kBeq, hM, hX])
          clear hW4 hI hM hX
          have hdr : W4.grownBy { W4 with drawn := W4.drawn + 1 } none := ⟨rfl, rfl, rfl, Nat.le_refl _, fun _ _ _ => rfl⟩
          have HCd : Hid (C2z w1 w1.heap.size w2.heap.size (w2.heap.size + 1) gs k dom msg wr.heap.size (.cells #[.int .i64 ky, .string d, .slice xa xl xc] 55 (0, 0)) was { W4 with drawn := W4.drawn + 1 }) := Lib.hid (HC.out.with (Nat.le_refl _) (grown_trans G4.out hdr) B4.out)
          have HCi : Hid (∀ (bv : Bool) (W : World), C2z w1 w1.heap.size w2.heap.size (w2.heap.size + 1) gs k dom msg wr.heap.size (.cells #[.int .i64 ky, .string d, .slice xa xl xc] 55 (0, 0)) bv W → W.cell? ⟨w2.heap.size, q, none⟩ = some (.string I)) := Lib.hid (fun bv W h => by rw [HI.out]; exact h.c2.id HQ3.out)
          clear hdr d1 d2 i4
          by_cases hf : fErr (strL d) [m] = 0
          · have HS : Hid (∀ (bv : Bool) (W : World), C2z w1 w1.heap.size w2.heap.size (w2.heap.size + 1) gs k dom msg wr.heap.size (.cells #[.int .i64 ky, .string d, .slice xa xl xc] 55 (0, 0)) bv W → Calls Tryd.prog 19 #[.pointer (some ⟨w1.heap.size, 0, none⟩), .string I, .string d, .slice xa xl xc] W fun e w' => (∃ u, e = .returned (.tuple #[u, .nilIface])) ∧ C2z w1 w1.heap.size w2.heap.size (w2.heap.size + 1) gs k dom msg wr.heap.size (.cells #[.int .i64 ky, .string d, .slice xa xl xc] 55 (0, 0)) (bv || hit q k d dom m msg) w') := Lib.hid (fun bv W h => by
              rw [HI.out, HXl.out]
              have hb := HBm.out
              have h0 := HB0m.out
              rw [HXl.out] at hb h0 h
              exact (C2z.sign h HK3.out HE1.out HL1.out HQ3.out d HD.out xa xc m HMl.out (hb.grown HG1.out) h0 hf).mono (fun e w' hp => by
                obtain ⟨g, h1, h2⟩ := hp
                exact ⟨⟨_, h1⟩, h2⟩))
            clear hf
            refine kc_region26 _ w1.heap.size q w2.heap.size wr.heap.size HQ3.out I d xa xl xc .nilIface (fun W => ∃ bv, (bv = was ∨ bv = (was || hit q k d dom m msg)) ∧ C2z w1 w1.heap.size w2.heap.size (w2.heap.size + 1) gs k dom msg wr.heap.size (.cells #[.int .i64 ky, .string d, .slice xa xl xc] 55 (0, 0)) bv W) (fun W => C2z w1 w1.heap.size w2.heap.size (w2.heap.size + 1) gs k dom msg wr.heap.size (.cells #[.int .i64 ky, .string d, .slice xa xl xc] 55 (0, 0)) (was || hit q k d dom m msg) W) _ _ rfl rfl rfl rfl rfl (fun W h => by obtain ⟨bv, _, h⟩ := h; exact HCi.out bv W h) (fun W h => by obtain ⟨bv, _, h⟩ := h; exact cell_blk h.blk 1 rfl) (fun W h => by obtain ⟨bv, _, h⟩ := h; exact cell_blk h.blk 2 rfl) (fun W h => ⟨_, .inr rfl, h⟩) (fun W h => by
              obtain ⟨bv, hbv, h⟩ := h
              refine (HS.out bv W h).mono (fun e w' hp => ⟨hp.1, ?_⟩)
              have hp2 := hp.2
              rcases hbv with rfl | rfl
              · exact hp2
              · rw [Bool.or_assoc, Bool.or_self] at hp2; exact hp2) ⟨was, .inl rfl, HCd.out⟩ (fun us w5 hd5 => ?_)
            simp only [kfill_cons, kfill_nil, Act.put, List.setIfInBounds_toArray, List.set_cons_succ, List.set_cons_zero]
            have hcb := hd5.blk
            have f1 : w5.cell? ⟨wr.heap.size, 1, none⟩ = some (.string d) := cell_blk hcb 1 rfl
            have f2 : w5.cell? ⟨wr.heap.size, 2, none⟩ = some (.slice xa xl xc) := cell_blk hcb 2 rfl
            have b5 := (hd5.c2.base.block _ (blk_lt HB1.out) (by simp)).trans HB1.out
            have f3 : w5.cell? ⟨w.heap.size, 1, none⟩ = some (.string dom) := cell_blk b5 1 rfl
            have f4 : w5.cell? ⟨w.heap.size, 2, none⟩ = some (.slice va ml vc) := cell_blk b5 2 rfl
            have cv1 := HCm.out w5 (grown_trans HG1.out hd5.c2.base)
            have cv2 := HCa.out w5 (grown_trans HG1.out hd5.c2.base)
            have HD5 := Lib.hid hd5.c2
            clear hcb b5 hd5 HS
            cases was with
            | true =>
              have C5 : Hid (C2 w1 w1.heap.size w2.heap.size (w2.heap.size + 1) gs k dom msg true w5) := Lib.hid HD5.out
              go_wp2
              go_roundw
              case rel => exact ⟨j + 1, true, by omega, by go_num, rfl, C5.out⟩
              case measure => simp [intOf]; omega
            | false =>
              by_cases hqk : (q : Int) = (k : Int)
              · cases h1 : (d.toList == dom.toList) with
                | false =>
                  have C5 : Hid (C2 w1 w1.heap.size w2.heap.size (w2.heap.size + 1) gs k dom msg false w5) := Lib.hid (by have h := HD5.out; rw [HHt.out, h1] at h; simpa using h)
                  go_wp2
                  go_roundw
                  case rel => exact ⟨j + 1, false, by omega, by go_num, rfl, C5.out⟩
                  case measure => simp [intOf]; omega
                | true =>
                  cases h2 : (M.toList == X.toList) with
                  | false =>
                    have C5 : Hid (C2 w1 w1.heap.size w2.heap.size (w2.heap.size + 1) gs k dom msg false w5) := Lib.hid (by have h := HD5.out; rw [HHt.out, h2] at h; simpa using h)
                    go_wp2
                    go_roundw
                    case rel => exact ⟨j + 1, false, by omega, by go_num, rfl, C5.out⟩
                    case measure => simp [intOf]; omega
                  | true =>
                    have C5 : Hid (C2 w1 w1.heap.size w2.heap.size (w2.heap.size + 1) gs k dom msg true w5) := Lib.hid (by have h := HD5.out; rw [HHt.out, h1, h2, decide_eq_true (show q = k by omega)] at h; exact h)
                    go_wp2
                    go_roundw
                    case rel => exact ⟨j + 1, true, by omega, by go_num, rfl, C5.out⟩
                    case measure => simp [intOf]; omega
              · have C5 : Hid (C2 w1 w1.heap.size w2.heap.size (w2.heap.size + 1) gs k dom msg false w5) := Lib.hid (by have h := HD5.out; rw [HHt.out, decide_eq_false (show ¬ q = k by omega)] at h; exact h)
                go_wp2
                go_roundw
                case rel => exact ⟨j + 1, false, by omega, by go_num, rfl, C5.out⟩
                case measure => simp [intOf]; omega
          · obtain ⟨p, hp⟩ : ∃ p, p = A (fErr (strL d) [m] - 1) := ⟨_, rfl⟩
            have HS : Hid (∀ (W : World), C2z w1 w1.heap.size w2.heap.size (w2.heap.size + 1) gs k dom msg wr.heap.size (.cells #[.int .i64 ky, .string d, .slice xa xl xc] 55 (0, 0)) was W → Calls Tryd.prog 19 #[.pointer (some ⟨w1.heap.size, 0, none⟩), .string I, .string d, .slice xa xl xc] W fun e w' => (∃ u, e = .returned (.tuple #[u, .iface 153 (.pointer (some p))])) ∧ C2z w1 w1.heap.size w2.heap.size (w2.heap.size + 1) gs k dom msg wr.heap.size (.cells #[.int .i64 ky, .string d, .slice xa xl xc] 55 (0, 0)) was w') := Lib.hid (fun W h => by
              have hstill := fun w' (hg : W.grownBy w' none) => h.still hg
              rw [HI.out, HXl.out, hp]
              have hb := HBm.out
              have h0 := HB0m.out
              rw [HXl.out] at hb h0
              exact (h.c2.sign_err HE1.out HL1.out HQ3.out d HD.out xa xc m HMl.out (hb.grown HG1.out) h0 hf).mono (fun e w' hp => ⟨⟨_, hp.1⟩, by have := hstill w' hp.2; rw [HXl.out] at this; exact this⟩))
            clear hf hp
            refine kc_region26 _ w1.heap.size q w2.heap.size wr.heap.size HQ3.out I d xa xl xc (.iface 153 (.pointer (some p))) (fun W => C2z w1 w1.heap.size w2.heap.size (w2.heap.size + 1) gs k dom msg wr.heap.size (.cells #[.int .i64 ky, .string d, .slice xa xl xc] 55 (0, 0)) was W) (fun W => C2z w1 w1.heap.size w2.heap.size (w2.heap.size + 1) gs k dom msg wr.heap.size (.cells #[.int .i64 ky, .string d, .slice xa xl xc] 55 (0, 0)) was W) _ _ rfl rfl rfl rfl rfl (fun W h => HCi.out was W h) (fun W h => cell_blk h.blk 1 rfl) (fun W h => cell_blk h.blk 2 rfl) (fun W h => h) HS.out HCd.out (fun us w5 hd5 => ?_)
            simp only [kfill_cons, kfill_nil, Act.put, List.setIfInBounds_toArray, List.set_cons_succ, List.set_cons_zero]
            have C5 := Lib.hid hd5.c2
            clear hd5 HS
            go_wp2
            go_roundw
            case rel => exact ⟨j + 1, was, by omega, by go_num, rfl, C5.out⟩
            case measure => simp [intOf]; omega
        · obtain rfl : j = n := by omega
          clear hjn
          have b1 := (HC.out.base.block _ (blk_lt HB1.out) (by simp)).trans HB1.out
          have c1 : wr.cell? ⟨w.heap.size, 1, none⟩ = some (.string dom) := cell_blk b1 1 rfl
          have c2 : wr.cell? ⟨w.heap.size, 2, none⟩ = some (.slice va ml vc) := cell_blk b1 2 rfl
          clear b1
          have HD := Lib.hid (show dom.size ≤ 1000 by omega)
          have HMl := Lib.hid (show msg.length ≤ 100000 by have := HM.out; omega)
          have HBW : Hid (∀ W, wr.grownBy W none → Bytes W (.slice va ml vc) msg) := Lib.hid (fun W hW => HB.out.grown (grown_trans HGr.out hW))
          have b2 := (HC.out.base.block _ (blk_lt HB1.out) (by simp)).trans HB1.out
          have HB2 := Lib.hid b2
          clear b2
          have hk3' : (k : Int) < 3 := by have := HK3.out; omega
          obtain ⟨I, hI⟩ : ∃ I, I = idK k := ⟨_, rfl⟩
          have HI := Lib.hid hI
          by_cases hf : fErr (strL dom) [msg] = 0
          · have HFr : Hid (∀ W, wr.grownBy W none → W.heap[wr.heap.size]? = some (.cells #[.slice va ml vc] 22 (0, 0)) → Calls Tryd.prog 20 #[.string dom, .slice (some ⟨wr.heap.size, 0, none⟩) 1 1] W fun e w' => ∃ fa fn fc, e = .returned (.tuple #[.slice fa fn fc, .int .i64 0]) ∧ W.grownBy w' none) := Lib.hid (fun W hW hg => kFrame0 dom HD.out hg (HBW.out W hW) HB0.out hf)
            obtain ⟨K, hK⟩ : ∃ K, K = Hm.hmac (rawL k) (frameOf (strL dom) [msg]) := ⟨_, rfl⟩
            have hKl : K.length = 32 := by rw [hK]; exact hmac_len _ _
            have hK8 : ∀ x ∈ K, x < 256 := by rw [hK]; exact hmac_lt _ _
            obtain ⟨D, hD⟩ : ∃ D, D = bytesV K := ⟨_, rfl⟩
            have hDs : D.size = 32 := by rw [hD, bytesV_size, hKl]
            have HDi : Hid ((Tryd.prog.info? 64).map (·.size) = some D.size) := Lib.hid (by rw [hDs]; kernel_rfl)
            have HDz : Hid (zeros32.size = D.size) := Lib.hid (by rw [hDs]; rfl)
            have HD1 : Hid (D.all (·.oneCell') = true) := Lib.hid (by rw [hD]; exact bytesV_one _)
            have HTg : Hid (∀ w6, wr.grownBy w6 none → ∀ W g, w6.grownBy W none → W.heap[g]? = some (.cells #[.slice va ml vc] 22 (0, 0)) → Calls Tryd.prog 22 #[.slice (some ⟨gs k, 0, none⟩) 32 32, .string dom, .slice (some ⟨g, 0, none⟩) 1 1] W fun e w' => e = .returned (.agg D) ∧ W.grownBy w' none) := Lib.hid (fun w6 h6 W g hW hg => by
              have hWr := grown_trans h6 hW
              rw [hD, hK]
              exact refTag_any _ (rawL k) dom [msg] (some ⟨g, 0, none⟩) g 0 1 1 rfl W ((HC.out.still hWr).raw HK3.out).2 (Whole0.some _ _ _) (by rw [rawL_len]; decide) (fun _ => ⟨rfl, blk_lt hg⟩) (one_part hg (HBW.out W hWr) HB0.out) (by have := HD.out; omega) (by decide) hf)
            have HVf : Hid (∀ W g N, wr.grownBy W none → W.heap[g]? = some (.cells D 64 (0, 0)) → N = (if was = true then 0 else 12) → Calls Tryd.prog 21 #[.pointer (some ⟨w1.heap.size, 0, none⟩), .string I, .string dom, .slice va ml vc, .slice (some ⟨g, 0, none⟩) 32 32] W fun e w' => e = .returned (errOf A N) ∧ W.grownBy w' none) := Lib.hid (fun W g N hW hg hN => by
              rw [hD] at hg
              have hS := row_bytes hK8 hg
              have hb := HBW.out W hW
              have hb0 := HB.out.grown HG1.out
              have h0 := HB0.out
              rw [HM.out] at hb hb0 h0 ⊢
              rw [HI.out]
              have := (HC.out.still hW).verify HK3.out HE1.out HL1.out HD.out va vc HMl.out hb0 h0 (some ⟨g, 0, none⟩) K.length K (by omega) hS N (by
                have e : (if fErr (strL dom) [msg] ≠ 0 then fErr (strL dom) [msg] else if Hm.hmac (rawL k) (frameOf (strL dom) [msg]) = K ∧ was = true then 0 else 12) = if was = true then 0 else 12 := by
                  rw [if_neg (fun h => h hf), ← hK]
                  simp only [true_and]
                exact hN.trans e.symm)
              rw [hKl] at this
              exact this)
            have HNm : Hid (∀ W, wr.grownBy W none → Calls Tryd.prog 11 #[errV A 12] W fun e w' => e = .returned (.int .i64 12) ∧ W.grownBy w' none) := Lib.hid (fun W hW => by
              have := num_of A 12 (by decide) W (HE.out.grown (grown_trans HGr.out hW))
              rw [errOf, if_neg (by decide)] at this
              exact this)
            clear hf hK hKl hK8 hD hDs hI
            go_wp2_with (go_at_call 20; obtain ⟨W5, hW5⟩ : ∃ W5, W5 = wr.alloc (.cells #[.slice va ml vc] 22) := ⟨_, rfl⟩; rw [← hW5]; have g5 : wr.grownBy W5 none := (by rw [hW5]; exact World.grownBy_alloc _ _ _); refine (HFr.out W5 g5 (by rw [hW5]; exact alloc_at _ _)).mono ?_; rintro e w6 ⟨fa, fn, fc, rfl, hg6⟩; have G6 := Lib.hid (grown_trans g5 hg6); clear hW5 g5 hg6)
            have C6 := Lib.hid (HC.out.still G6.out)
            have B6 := Lib.hid ((G6.out.block _ (blk_lt HB2.out) (by simp)).trans HB2.out)
            refine kc_region33 _ k w.heap.size (w2.heap.size + 1) HK3.out (some ⟨gs k, 0, none⟩) va ml vc dom D w6 _ _ rfl rfl rfl rfl (fun W hW => ((C6.out.still hW).raw HK3.out).1) (fun W hW => cell_blk ((hW.block _ (blk_lt B6.out) (by simp)).trans B6.out) 1 rfl) (fun W hW => cell_blk ((hW.block _ (blk_lt B6.out) (by simp)).trans B6.out) 2 rfl) (HTg.out w6 G6.out) HDi.out HDz.out HD1.out ⟨rfl, rfl, rfl, Nat.le_refl _, fun _ _ _ => rfl⟩ (fun us w7 g h20 hg7 hgg hD7 => ?_)
            simp only [kfill_cons, kfill_nil, Act.put, List.setIfInBounds_toArray, List.set_cons_succ, List.set_cons_zero]
            rw [h20]
            have G7 := Lib.hid (grown_trans G6.out hg7)
            have D7 := Lib.hid hD7
            have b7 := (hg7.block _ (blk_lt B6.out) (by simp)).trans B6.out
            have c71 : w7.cell? ⟨w.heap.size, 1, none⟩ = some (.string dom) := cell_blk b7 1 rfl
            have c72 : w7.cell? ⟨w.heap.size, 2, none⟩ = some (.slice va ml vc) := cell_blk b7 2 rfl
            have c7i : w7.cell? ⟨w2.heap.size, k, none⟩ = some (.string I) := by rw [HI.out]; exact (HC.out.still G7.out).id HK3.out
            clear b7 hg7 hD7 h20 hgg
            go_wp2
            refine wp_region_quiet_tail (fun w' => ∃ n, w' = w7.drewN n) 9 (by kernel_rfl) (by kernel_rfl) ⟨1, rfl⟩ ?_
            simp only [List.take_succ_cons, List.take_zero, List.drop_succ_cons, List.drop_zero]
            repeat (go_big_quiet_step (fail))
            refine wpQuiet_nil ?_
            rintro _ ⟨n8, rfl⟩
            have G8 := Lib.hid (grown_drewN G7.out n8)
            have D8 : Hid ((w7.drewN n8).heap[g]? = some (.cells D 64 (0, 0))) := Lib.hid D7.out
            cases was with
            | true =>
              have hv := HVf.out (w7.drewN n8) g 0 G8.out D8.out rfl
              rw [errOf, if_pos rfl] at hv
              have HV0 := Lib.hid hv
              clear hv
              go_wp2_with (go_at_call 21; refine HV0.out.mono ?_; rintro e w9 ⟨rfl, hg9⟩; have G9 := Lib.hid (grown_trans G8.out hg9); clear hg9)
              go_ret
              exact ⟨rfl, grown_trans HGr.out G9.out⟩
            | false =>
              have hv := HVf.out (w7.drewN n8) g 12 G8.out D8.out rfl
              rw [errOf, if_neg (by decide)] at hv
              have HV0 := Lib.hid hv
              clear hv
              go_wp2_with (first
                | (go_at_call 21; refine HV0.out.mono ?_; rintro e w9 ⟨rfl, hg9⟩; have G9 := Lib.hid (grown_trans G8.out hg9); clear hg9)
                | (go_at_call 11; refine (HNm.out w9 G9.out).mono ?_; rintro e w10 ⟨rfl, hg10⟩; have G10 := Lib.hid (grown_trans G9.out hg10); clear hg10))
              go_ret
              exact ⟨rfl, grown_trans HGr.out G10.out⟩
          · have hN28 : fErr (strL dom) [msg] ≤ 28 := by rcases fErr_cases (strL dom) [msg] with h | h | h <;> omega
            obtain ⟨N, hN⟩ : ∃ N, N = fErr (strL dom) [msg] := ⟨_, rfl⟩
            have hN0 : N ≠ 0 := by rw [hN]; exact hf
            have HFr : Hid (∀ W, wr.grownBy W none → W.heap[wr.heap.size]? = some (.cells #[.slice va ml vc] 22 (0, 0)) → Calls Tryd.prog 20 #[.string dom, .slice (some ⟨wr.heap.size, 0, none⟩) 1 1] W fun e w' => e = .returned (.tuple #[.slice none 0 0, .int .i64 (N : Int)]) ∧ W.grownBy w' none) := Lib.hid (fun W hW hg => by rw [hN]; exact kFrame1 dom HD.out hg (HBW.out W hW) HB0.out hf)
            have HVf : Hid (∀ W, wr.grownBy W none → Calls Tryd.prog 21 #[.pointer (some ⟨w1.heap.size, 0, none⟩), .string I, .string dom, .slice va ml vc, .slice none 0 0] W fun e w' => e = .returned (errV A N) ∧ W.grownBy w' none) := Lib.hid (fun W hW => by
              have hb0 := HB.out.grown HG1.out
              have h0 := HB0.out
              rw [HM.out] at hb0 h0 ⊢
              rw [HI.out]
              have := (HC.out.still hW).verify HK3.out HE1.out HL1.out HD.out va vc HMl.out hb0 h0 none 0 [] (by simp) ⟨by simp, none, 0, 0, 0, rfl, Nat.le_refl _, fun h => absurd h (by simp), fun j hj => absurd hj (by simp)⟩ N (by
                rw [if_pos hf]; exact hN)
              rw [errOf, if_neg hN0] at this
              exact this)
            have HNm : Hid (∀ W, wr.grownBy W none → Calls Tryd.prog 11 #[errV A N] W fun e w' => e = .returned (.int .i64 (N : Int)) ∧ W.grownBy w' none) := Lib.hid (fun W hW => by
              have := num_of A N (by rw [hN]; exact hN28) W (HE.out.grown (grown_trans HGr.out hW))
              rw [errOf, if_neg hN0] at this
              exact this)
            have hni : ¬ (N : Int) = 0 := by omega
            clear hf hN hN0 hN28 hI
            go_wp2_with (go_at_call 20; obtain ⟨W5, hW5⟩ : ∃ W5, W5 = wr.alloc (.cells #[.slice va ml vc] 22) := ⟨_, rfl⟩; rw [← hW5]; have g5 : wr.grownBy W5 none := (by rw [hW5]; exact World.grownBy_alloc _ _ _); refine (HFr.out W5 g5 (by rw [hW5]; exact alloc_at _ _)).mono ?_; rintro e w6 ⟨rfl, hg6⟩; have G6 := Lib.hid (grown_trans g5 hg6); clear hW5 g5 hg6)
            have B6 := Lib.hid ((G6.out.block _ (blk_lt HB2.out) (by simp)).trans HB2.out)
            refine kc_region32 _ w1.heap.size k w2.heap.size w.heap.size HK3.out I dom va ml vc (errV A N) N w6 _ _ rfl rfl rfl rfl rfl rfl (fun W hW => by rw [HI.out]; exact (HC.out.still (grown_trans G6.out hW)).id HK3.out) (fun W hW => cell_blk ((hW.block _ (blk_lt B6.out) (by simp)).trans B6.out) 1 rfl) (fun W hW => cell_blk ((hW.block _ (blk_lt B6.out) (by simp)).trans B6.out) 2 rfl) (fun W hW => HVf.out W (grown_trans G6.out hW)) (fun W hW => HNm.out W (grown_trans G6.out hW)) ⟨rfl, rfl, rfl, Nat.le_refl _, fun _ _ _ => rfl⟩ (fun us w7 hg7 => ?_)
            simp only [kfill_cons, kfill_nil, Act.put, List.setIfInBounds_toArray, List.set_cons_succ, List.set_cons_zero]
            have G7 := Lib.hid (grown_trans G6.out hg7)
            clear hg7
            go_wp2
            go_ret
            exact ⟨rfl, grown_trans HGr.out G7.out⟩
end Go.Proofs.YtgdnndapmcjoeaaDoor
