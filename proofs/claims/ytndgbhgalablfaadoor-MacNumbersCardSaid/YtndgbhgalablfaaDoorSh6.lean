/- The walk of (*Hash).Write. -/
import Derived.Test.YtndgbhgalablfaaDoorSh5
import Derived.Test.YtndgbhgalablfaaDoorByt
namespace Go.Proofs.YtndgbhgalablfaaDoor
open Go.RowKit

theorem IsHash.bytesR {w : World} {b : Nat} {s : Sha.HS} (h : IsHash w b s) : w.rangeAt b 9 (bytesV s.bytes).toList := by
  have := range_blk (w := w) (b := b) (pre := (stV s.words).toList ++ [.int .i64 (s.blocks : Int)]) (cs := (bytesV s.bytes).toList) (post := [.int .i64 (s.filled : Int)]) (t := 101) (fr := (0, 0)) (by
    rw [List.append_assoc, List.append_assoc]; exact h)
  exact this

set_option maxRecDepth 100000 in
set_option maxHeartbeats 1000000 in
theorem write_core (s : Sha.HS) (M : List Nat) (hR : Sha.Rep s M) (b : Nat) (hb2 : 30 < b) (w : World) (hH : IsHash w b s) (hL : Laid w) (l : List Nat) (hlt : ∀ x ∈ l, x < 256) (hM : M.length + l.length < 1152921504606846976)
    (a : Option Addr) (sb so n c : Nat) (hn : l.length = n) (hc : n ≤ c) (ha : 0 < n → a = some ⟨sb, so, none⟩ ∧ sb < w.heap.size ∧ sb ≠ b)
    (hcell : ∀ j, j < n → w.cell? ⟨sb, so + j, none⟩ = some (.int .u8 (l.getD j 0 : Nat))) (hnl : n ≤ 9223372036854775807) :
    Calls Tryd.prog 51 #[.pointer (some ⟨b, 0, none⟩), .slice a n c] w fun e w' =>
      e = .returned (.tuple #[]) ∧ w.grownBy w' (some b) ∧ ∃ s', IsHash w' b s' ∧ Sha.Rep s' (M ++ l) := by
  have HH := Lib.hid hH
  have HR := Lib.hid hR
  have HL := Lib.hid hL
  have Hlt := Lib.hid hlt
  have HM := Lib.hid hM
  have Hn := Lib.hid hn
  have Ha := Lib.hid ha
  have Hcell := Lib.hid hcell
  have hbl := hH.lt
  clear hH hR hL hlt hM hn ha hcell
  go_enter Tryd.func51, Tryd.ntmps51
  go_wp2
  go_loopw [1] (fun v wr => ∃ (k : Nat) (a' : Option Addr) (s' : Sha.HS), k ≤ n ∧ v = .slice a' (n - k) (c - k) ∧ (k < n → a' = some ⟨sb, so + k, none⟩) ∧ w.grownBy wr (some b) ∧ IsHash wr b s' ∧ Sha.Rep s' (M ++ l.take k))
    (fun v _ => match v with | .slice _ m _ => m | _ => 0)
  case atStart => exact ⟨0, a, s, Nat.zero_le _, rfl, fun h => (Ha.out h).1, grown_refl _ _, HH.out, by simpa using HR.out⟩
  case round =>
    obtain ⟨k, a', s', hk, rfl, ha', hg, hH, hR⟩ := hrel
    by_cases hkn : k < n
    · obtain rfl := ha' hkn
      have hne : sb ≠ b := (Ha.out (by omega)).2.2
      have hT := take_any s' hR.ok hR.filled b wr hH (l.drop k) sb (so + k) (n - k) (c - k) hne (by rw [List.length_drop, Hn.out]) (by omega) (by omega) (fun x hx => Hlt.out x (List.mem_of_mem_drop hx))
        (fun j hj => by
          have := Hcell.out (k + j) (by omega)
          rw [World.cell?_of_block (hg.block sb (Ha.out (by omega)).2.1 (by simpa using hne)), Nat.add_assoc, this]
          simp)
      have HT := Lib.hid hT
      clear hT ha'
      have HG := Lib.hid hg
      have HR' := Lib.hid hR
      have HH' := Lib.hid hH
      clear hg hR hH
      obtain ⟨s1, hs1⟩ : ∃ s1, s1 = s'.take (l.drop k) := ⟨_, rfl⟩
      obtain ⟨m, hm⟩ : ∃ m, m = s'.room (l.drop k) := ⟨_, rfl⟩
      rw [← hs1, ← hm] at HT
      have hok1 : s1.ok := by rw [hs1]; exact Sha.HS.take_ok HR'.out.ok (fun x hx => Hlt.out x (List.mem_of_mem_drop hx))
      have hdl : (l.drop k).length = n - k := by rw [List.length_drop, Hn.out]
      have m0 : 0 < m := by
        have := HR'.out.filled
        rw [hm]; unfold Sha.HS.room; rw [hdl]; omega
      have m1 : m ≤ n - k := by rw [hm, ← hdl]; exact Sha.HS.room_le _ _
      have htk : l.take (k + m) = l.take k ++ (l.drop k).take m := List.take_add
      have HTK := Lib.hid htk
      obtain ⟨p, hp⟩ : ∃ p : Addr, p = if c - k = m then ⟨sb, so + k, none⟩ else ⟨sb, so + k + m, none⟩ := ⟨_, rfl⟩
      have Hp : Hid (k + m < n → some p = some ⟨sb, so + (k + m), none⟩) := Lib.hid (fun h => by rw [hp, if_neg (by omega), Nat.add_assoc])
      rw [← hp] at HT
      clear hp
      have Hok1 := Lib.hid hok1
      by_cases hF : s1.filled = 64
      · have hbk : s'.blocks + 1 < 1152921504606846976 := by
          have h1 := HR'.out.len
          have h2 := HM.out
          rw [List.length_append, List.length_take, Hn.out] at h1
          rw [Hn.out] at h2
          omega
        have Hmk := Lib.hid (Sha.HS.mix_ok hok1 s1.bytes (by rw [hs1]; exact hbk))
        have hR2 : Sha.Rep { s1.mix s1.bytes with filled := 0 } (M ++ l.take (k + m)) := by
          rw [htk, ← List.append_assoc, hm]
          have := HR'.out.full (l := l.drop k) (fun x hx => Hlt.out x (List.mem_of_mem_drop hx)) (by rw [← hs1]; exact hF) hbk
          rw [← hs1] at this
          exact this
        obtain ⟨s2, hs2⟩ : ∃ s2, s2 = s1.mix s1.bytes := ⟨_, rfl⟩
        rw [← hs2] at hR2 Hmk
        have Hs2 := Lib.hid hs2
        have HR2 := Lib.hid hR2
        have HF := Lib.hid hF
        clear hs1 hm hok1 hR2 hF htk hdl hbk hs2
        go_wp2_with (first
          | (go_at_call 64; refine HT.out.mono ?_; rintro e w1 ⟨rfl, hg1, hH1⟩; have HG1 := Lib.hid hg1; have HH1 := Lib.hid hH1; clear hg1 hH1)
          | (go_at_call 65; refine (full_yes s1 Hok1.out HF.out b w1 HH1.out).mono ?_; rintro e w' ⟨rfl, rfl⟩))
        refine wp_region_quiet_tail (fun w' => ∃ n, w' = w1.drewN n) 8 (by kernel_rfl) (by kernel_rfl) ⟨1, rfl⟩ ?_
        simp only [List.take_succ_cons, List.take_zero, List.drop_succ_cons, List.drop_zero]
        iterate 7 (go_big_quiet_step (fail))
        refine wpQuiet_load_mid (by rfl) 76 (.tmp 22) (by rfl) b 9 (by rfl) (bytesV s1.bytes).toList _ (fun w' hw' => by obtain ⟨q, rfl⟩ := hw'; exact HH1.out.bytesR) Tryd.underlying76 (by rfl) (by rw [Array.length_toList, bytesV_size, Hok1.out.len]; kernel_rfl) ?_
        refine wpQuiet_nil ?_
        rintro _ ⟨q, rfl⟩
        simp only [Act.put, List.setIfInBounds_toArray, List.set_cons_succ, List.set_cons_zero, Array.toArray_toList]
        go_wp2_with fail
        have hLq : Laid (w1.drewN q) := (HL.out.grown HG.out (by simp; omega) (by simp; omega)).grown (grown_drewN HG1.out q) (by simp; omega) (by simp; omega)
        refine (mix_any s1 s1.bytes Hok1.out Hok1.out.len Hok1.out.lt b (w1.drewN q) HH1.out hb2 hLq).mono ?_
        clear hLq
        rintro e w2 ⟨rfl, hg2, hH2⟩
        rw [← Hs2.out] at hH2
        have c73 := hH2.filled Hmk.out
        have f73 := hH2.free 73
        have HG2 := Lib.hid hg2
        have HH2 := Lib.hid hH2
        clear hg2 hH2
        go_wp2
        go_roundw
        case rel =>
          refine ⟨k + m, some p, _, by omega, by rw [Nat.sub_sub, Nat.sub_sub], Hp.out, ?_, HH2.out.setFilled Hmk.out.len 0, HR2.out⟩
          exact grown_set (grown_trans (grown_trans HG.out HG1.out) (grown_of_drewN HG2.out)) (.inr rfl) _
        case measure => simp; omega
      · have hR2 : Sha.Rep s1 (M ++ l.take (k + m)) := by
          rw [htk, ← List.append_assoc, hm]
          have := HR'.out.take (l := l.drop k) (fun x hx => Hlt.out x (List.mem_of_mem_drop hx)) (by rw [← hs1]; exact hF)
          rw [← hs1] at this
          exact this
        have HR2 := Lib.hid hR2
        have HF := Lib.hid hF
        clear hs1 hm hok1 hR2 hF htk hdl
        go_wp2_with (first
          | (go_at_call 64; refine HT.out.mono ?_; rintro e w1 ⟨rfl, hg1, hH1⟩; have HG1 := Lib.hid hg1; have HH1 := Lib.hid hH1; clear hg1 hH1)
          | (go_at_call 65; refine (full_no s1 Hok1.out HF.out b w1 HH1.out).mono ?_; rintro e w' ⟨rfl, rfl⟩))
        go_roundw
        case rel => exact ⟨k + m, some p, _, by omega, by rw [Nat.sub_sub, Nat.sub_sub], Hp.out, grown_trans HG.out HG1.out, HH1.out, HR2.out⟩
        case measure => simp; omega
    · obtain rfl : k = n := by omega
      have HG := Lib.hid hg
      have HR' := Lib.hid hR
      have HH' := Lib.hid hH
      clear hg hR hH ha'
      go_wp2
      go_end0
      refine ⟨rfl, HG.out, s', HH'.out, ?_⟩
      have := HR'.out
      rwa [List.take_of_length_le (by rw [Hn.out]; omega)] at this
end Go.Proofs.YtndgbhgalablfaaDoor
