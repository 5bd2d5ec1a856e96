/- The law TlvNests. -/
import Derived.Test.YtndgbhgalablfaaDoorTl8
namespace Go.Proofs.YtndgbhgalablfaaDoor
open Go.RowKit

/-- The slice v has just the ints l. -/
def Ints (w : World) (v : Value) (l : List Int) : Prop :=
  ∃ (a : Option Addr) (sb so c : Nat), v = .slice a l.length c ∧ l.length ≤ c ∧ (0 < l.length → a = some ⟨sb, so, none⟩ ∧ sb < w.heap.size) ∧ ∀ j, j < l.length → w.cell? ⟨sb, so + j, none⟩ = some (.int .i64 (l.getD j 0))
def tg (z : Int) : Nat := [48, 49, 160, 175].getD (z % 4).toNat 0
theorem tg_made (z : Int) : Tl.made (tg z : Nat) = true := by
  unfold tg
  have h : (z % 4).toNat = 0 ∨ (z % 4).toNat = 1 ∨ (z % 4).toNat = 2 ∨ (z % 4).toNat = 3 := by omega
  rcases h with h | h | h | h <;> rw [h] <;> decide
theorem tg_lt (z : Int) : tg z < 256 := by
  have := Tl.made_nat _ (tg_made z)
  omega
def chain (ts : List Int) : List Nat := (ts.map tg).reverse
theorem chain_take (ts : List Int) (k : Nat) (h : k < ts.length) : chain (ts.take (k + 1)) = tg (ts.getD k 0) :: chain (ts.take k) := by
  have e : ts.getD k 0 = ts[k] := by rw [List.getD_eq_getElem?_getD, List.getElem?_eq_getElem h]; rfl
  rw [chain, List.take_add_one, List.getElem?_eq_getElem h, e, List.map_append, List.reverse_append]
  rfl
theorem chain_len (ts : List Int) : (chain ts).length = ts.length := by simp [chain]
theorem chain_made (ts : List Int) : ∀ t ∈ chain ts, Tl.made (t : Nat) = true := by
  intro t ht
  simp only [chain, List.mem_reverse, List.mem_map] at ht
  obtain ⟨z, _, rfl⟩ := ht
  exact tg_made z

theorem uint4 (z : Int) : wrap64 ((IntKind.u64.wrap z).tmod 4) = (((z % 4).toNat : Nat) : Int) := by
  have e : IntKind.u64.wrap z = z % 18446744073709551616 := by
    simp only [IntKind.wrap, IntKind.bits, IntKind.signed]
    simp
  rw [e, Int.tmod_eq_emod_of_nonneg (Int.emod_nonneg _ (by decide))]
  unfold wrap64
  omega
theorem tg_cell (z : Int) : (#[Value.int IntKind.i64 48, Value.int IntKind.i64 49, Value.int IntKind.i64 160, Value.int IntKind.i64 175] : Array Value)[(z % 4).toNat]? = some (.int .i64 (tg z : Nat)) := by
  have h : (z % 4).toNat = 0 ∨ (z % 4).toNat = 1 ∨ (z % 4).toNat = 2 ∨ (z % 4).toNat = 3 := by omega
  unfold tg
  rcases h with h | h | h | h <;> rw [h] <;> rfl

set_option maxRecDepth 100000 in
set_option maxHeartbeats 1000000 in
theorem tlvNests_any (A : Nat → Addr) (tv v : Value) (ts : List Int) (l : List Nat) (w : World) (hT : Ints w tv ts) (hr : ∀ z ∈ ts, -9223372036854775808 ≤ z ∧ z ≤ 9223372036854775807) (hm : ts.length ≤ 9223372036854775807) (hB : Bytes w v l) (h0 : Whole0 v) (hl : l.length ≤ 9223372036854775807) (hE : AllErrs w A) :
    Calls Tryd.prog 6 #[tv, v] w fun e w' => e = .returned (.bool true) ∧ w.grownBy w' none := by
  have HAl := Lib.hid (alive3_any A w hE)
  have HE := Lib.hid hE
  have HB := Lib.hid hB
  have H0 := Lib.hid h0
  have HR := Lib.hid hr
  obtain ⟨_, va, vsb, vso, vc, rfl, _⟩ := hB
  obtain ⟨ta, tsb, tso, tc, rfl, htc, hta, htcell⟩ := hT
  obtain ⟨n, hn⟩ : ∃ n, n = ts.length := ⟨_, rfl⟩
  obtain ⟨m, hm'⟩ : ∃ m, m = l.length := ⟨_, rfl⟩
  have HN := Lib.hid hn
  have HM := Lib.hid hm'
  rw [← hn] at htc hta htcell hm ⊢
  rw [← hm'] at HB H0 hl ⊢
  have HTa := Lib.hid hta
  have HTc := Lib.hid htcell
  clear hE h0 hr hn hm' hta htcell
  by_cases hlong : 30 < n ∨ 100 < m
  · by_cases h1 : 30 < n
    · have d1 : decide ((30 : Int) < (n : Int)) = true := decide_eq_true (by omega)
      clear hlong h1
      go_enter Tryd.func6, Tryd.ntmps6
      go_wp2_with (go_at_call 19; refine HAl.out.mono ?_; rintro e w2 ⟨rfl, hg2⟩)
      go_ret
      exact ⟨rfl, hg2⟩
    · have d1 : decide ((30 : Int) < (n : Int)) = false := decide_eq_false (by omega)
      have d2 : decide ((100 : Int) < (m : Int)) = true := decide_eq_true (by omega)
      clear hlong h1
      go_enter Tryd.func6, Tryd.ntmps6
      go_wp2_with (go_at_call 19; refine HAl.out.mono ?_; rintro e w2 ⟨rfl, hg2⟩)
      go_ret
      exact ⟨rfl, hg2⟩
  · have d1 : decide ((30 : Int) < (n : Int)) = false := decide_eq_false (by omega)
    have d2 : decide ((100 : Int) < (m : Int)) = false := decide_eq_false (by omega)
    have hn30 : n ≤ 30 := by omega
    have hm100 : m ≤ 100 := by omega
    clear hlong hm hl
    go_enter Tryd.func6, Tryd.ntmps6
    go_wp2_with (first
      | (go_at_call 19; refine HAl.out.mono ?_; rintro e w2 ⟨rfl, hg2⟩; have HG2 := Lib.hid hg2; clear hg2)
      | (go_at_call 24; refine (refPut_any 4 (by decide) _ l _ (HB.out.grown HG2.out) H0.out (by rw [← HM.out]; omega)).mono ?_; rintro e w3 ⟨u, rfl, hF⟩; have G3 := Lib.hid (grown_trans HG2.out hF.grown); have B3 := Lib.hid (Bytes.own hF.own (Tl.elem_lt (by decide) HB.out.lt)); have W3 := Lib.hid (Whole0.own hF.own); clear hF))
    go_loopw [5, 23] (fun b i wr => ∃ k : Nat, k ≤ n ∧ i = .int .i64 k ∧ Bytes wr b (Tl.nest l (chain (ts.take k))) ∧ Whole0 b ∧ w.grownBy wr none) (fun _ i _ => n - (intOf i).toNat)
    case atStart => exact ⟨0, Nat.zero_le _, rfl, B3.out, W3.out, G3.out⟩
    case round =>
      obtain ⟨k, hk, rfl, hb, hb0, hgr⟩ := hrel
      have HBb := Lib.hid hb
      have HB0 := Lib.hid hb0
      have HGr := Lib.hid hgr
      obtain ⟨_, ba, _, _, bc, rfl, _⟩ := hb
      clear hb0 hgr
      by_cases hkn : k < n
      · obtain ⟨rfl, ht2⟩ := HTa.out (by omega)
        have c1 := HTc.out k hkn
        have c2 : wr.cell? ⟨tsb, tso + k, none⟩ = some (.int .i64 (ts.getD k 0)) := by rw [World.cell?_of_block (HGr.out.block _ ht2 (by simp))]; exact c1
        have hz := HR.out (ts.getD k 0) (by rw [List.getD_eq_getElem?_getD, List.getElem?_eq_getElem (by rw [← HN.out]; exact hkn)]; exact List.getElem_mem _)
        have HCh := Lib.hid (chain_take ts k (by rw [← HN.out]; exact hkn))
        generalize ts.getD k 0 = z at *
        clear c1 hz
        have e4 := uint4 z
        have hq4 : (z % 4).toNat < 4 := by omega
        have c3 : (wr.alloc (.cells #[Value.int IntKind.i64 48, Value.int IntKind.i64 49, Value.int IntKind.i64 160, Value.int IntKind.i64 175] 3)).cell? ⟨wr.heap.size, (z % 4).toNat, none⟩ = some (.int .i64 (tg z : Nat)) := cell_blk (alloc_at _ _) _ (tg_cell z)
        have HTl := Lib.hid (tg_lt z)
        have HTm := Lib.hid (tg_made z)
        have hnl : Hid ((Tl.nest l (chain (ts.take k))).length ≤ 200) := Lib.hid (by
          have := Tl.nest_len l (by rw [← HM.out]; exact hm100) (chain (ts.take k)) (by rw [chain_len, List.length_take]; omega)
          rw [chain_len, List.length_take] at this
          omega)
        obtain ⟨N, hN⟩ : ∃ N, N = Tl.nest l (chain (ts.take k)) := ⟨_, rfl⟩
        have HNe : Hid (Tl.nest l (chain (ts.take (k + 1))) = Tl.elem (tg z) N) := Lib.hid (by rw [HCh.out, Tl.nest, hN])
        rw [← hN] at HBb HB0 hnl ⊢
        clear hN
        generalize tg z = tq at *
        generalize (z % 4).toNat = q at *
        obtain ⟨nl, hnlE⟩ : ∃ nl, nl = N.length := ⟨_, rfl⟩
        have HNl := Lib.hid hnlE
        rw [← hnlE] at HBb HB0 hnl ⊢
        clear hnlE
        go_wp2_with (go_at_call 24; refine (refPut_any tq HTl.out _ N _ (HBb.out.grown (World.grownBy_alloc _ _ _)) HB0.out (by rw [← HNl.out]; have := hnl.out; omega)).mono ?_; rintro e w5 ⟨u5, rfl, hF5⟩; have G5 := Lib.hid (grown_trans HGr.out (grown_trans (World.grownBy_alloc _ _ _) hF5.grown)); have B5 := Lib.hid (Bytes.own hF5.own (Tl.elem_lt HTl.out HBb.out.lt)); have W5 := Lib.hid (Whole0.own hF5.own); clear hF5)
        go_roundw
        case rel => exact ⟨k + 1, by omega, by go_num, by rw [HNe.out]; exact B5.out, W5.out, G5.out⟩
        case measure => simp [intOf]; omega
      · obtain rfl : k = n := by omega
        have htk : ts.take k = ts := List.take_of_length_le (by rw [HN.out]; exact Nat.le_refl _)
        rw [htk] at HBb HB0
        have HLv := Lib.hid (Tl.levels_nest l (by rw [← HM.out]; exact hm100) (chain ts) (by rw [chain_len, ← HN.out]; exact hn30) (chain_made ts))
        have hcl : (chain ts).length = k := by rw [chain_len, HN.out]
        rw [hcl] at HLv
        have hnl : Hid ((Tl.nest l (chain ts)).length ≤ 200) := Lib.hid (by
          have := Tl.nest_len l (by rw [← HM.out]; exact hm100) (chain ts) (by rw [hcl]; exact hn30)
          rw [hcl] at this
          omega)
        rw [htk]
        clear htk hcl
        generalize Tl.nest l (chain ts) = N at *
        obtain ⟨nl, hnlE⟩ : ∃ nl, nl = N.length := ⟨_, rfl⟩
        have HNl := Lib.hid hnlE
        rw [← hnlE] at HBb HB0 hnl ⊢
        clear hnlE
        have HCk := Lib.hid (fun W (hW : wr.grownBy W none) => check_any A _ N W (HBb.out.grown hW) HB0.out (by rw [← HNl.out]; have := hnl.out; omega) (HE.out.grown (grown_trans HGr.out hW)))
        have HDp := Lib.hid (fun W (hW : wr.grownBy W none) => depth_any A _ N W (HBb.out.grown hW) HB0.out (by rw [← HNl.out]; have := hnl.out; omega) (HE.out.grown (grown_trans HGr.out hW)))
        have HNu := Lib.hid (fun W (hW : wr.grownBy W none) => num_at A 6 (by decide) W (HE.out.grown (grown_trans HGr.out hW)))
        by_cases h15 : k ≤ 15
        · have hx := HLv.out
          rw [if_pos h15] at hx
          rw [hx] at HCk HDp
          have d15 : decide ((15 : Int) < (k : Int)) = false := decide_eq_false (by omega)
          clear hx HLv
          go_wp2_with (first
            | (go_at_call 27; refine (HCk.out _ (grown_refl _ _)).mono ?_; rintro e w5 ⟨rfl, hg5⟩; have HG5 := Lib.hid hg5; clear hg5; simp only [chkV])
            | (go_at_call 28; refine (HDp.out _ HG5.out).mono ?_; rintro e w6 ⟨rfl, hg6⟩; have HG6 := Lib.hid (grown_trans HG5.out hg6); clear hg6; simp only [depN]))
          go_ret
          exact ⟨by simp, grown_trans HGr.out HG6.out⟩
        · have hx := HLv.out
          rw [if_neg h15] at hx
          rw [hx] at HCk HDp
          have d15 : decide ((15 : Int) < (k : Int)) = true := decide_eq_true (by omega)
          clear hx HLv
          go_wp2_with (first
            | (go_at_call 27; refine (HCk.out _ (grown_refl _ _)).mono ?_; rintro e w5 ⟨rfl, hg5⟩; have HG5 := Lib.hid hg5; clear hg5; simp only [chkV])
            | (go_at_call 13; refine (HNu.out _ HG5.out).mono ?_; rintro e w6 ⟨rfl, hg6⟩; have HG6 := Lib.hid (grown_trans HG5.out hg6); clear hg6)
            | (go_at_call 28; refine (HDp.out _ HG6.out).mono ?_; rintro e w7 ⟨rfl, hg7⟩; have HG7 := Lib.hid (grown_trans HG6.out hg7); clear hg7; simp only [depN]))
          go_ret
          exact ⟨rfl, grown_trans HGr.out HG7.out⟩
end Go.Proofs.YtndgbhgalablfaaDoor
