import Derived.Test.YtgdnndapmcjoeaaDoorKe00
import Derived.Test.YtgdnndapmcjoeaaDoorKe02
import Derived.Test.YtgdnndapmcjoeaaDoorKe11
namespace Go.Proofs.YtgdnndapmcjoeaaDoor
open Go.RowKit
theorem IsHash.filled {w : World} {b : Nat} {s : Sha.HS} (h : IsHash w b s) (hs : s.ok) : w.cell? ⟨b, 73, none⟩ = some (.int .i64 (s.filled : Int)) := cell_blk h 73 (by
  have : (stV s.words).toList.length = 8 := rfl
  have h2 : (bytesV s.bytes).toList.length = 64 := by simp [bytesV, hs.len]
  simp only [hsL, List.getElem?_toArray]
  rw [List.getElem?_append_right (by omega), this, List.getElem?_append_right (by simp), List.length_singleton, List.getElem?_append_right (by rw [h2]; decide), h2]
  rfl)
theorem IsHash.setFilled {w : World} {b : Nat} {s : Sha.HS} (h : IsHash w b s) (hs : s.bytes.length = 64) (n : Nat) : IsHash (w.setCell ⟨b, 73, none⟩ (.int .i64 (n : Int))) b { s with filled := n } := by
  have := setCells_heap [.int .i64 (n : Int)] ((stV s.words).toList ++ ([Value.int .i64 (s.blocks : Int)] ++ (bytesV s.bytes).toList)) [.int .i64 (s.filled : Int)] [] w (by simp only [List.append_nil, List.append_assoc]; exact h) rfl
  have e : ((stV s.words).toList ++ ([Value.int .i64 (s.blocks : Int)] ++ (bytesV s.bytes).toList)).length = 73 := by simp [stV, bytesV, hs]
  rw [e] at this
  simp only [List.append_nil, List.append_assoc] at this
  exact this
theorem IsHash.setBytes {w : World} {b : Nat} {s : Sha.HS} (h : IsHash w b s) (x y z y' : List Nat) (he : s.bytes = x ++ (y ++ z)) (hy : y'.length = y.length) :
    IsHash (w.setCells b (9 + x.length) (bytesV y').toList) b { s with bytes := x ++ (y' ++ z) } := by
  have := setCells_heap (bytesV y').toList ((stV s.words).toList ++ ([.int .i64 (s.blocks : Int)] ++ (bytesV x).toList)) (bytesV y).toList ((bytesV z).toList ++ [.int .i64 (s.filled : Int)]) w (by
    have : IsHash w b s := h
    simp only [IsHash, hsL, he] at this
    simpa [bytesV] using this) (by simp [bytesV, hy])
  have e : ((stV s.words).toList ++ ([Value.int .i64 (s.blocks : Int)] ++ (bytesV x).toList)).length = 9 + x.length := by simp [stV, bytesV]; omega
  rw [e] at this
  simpa [IsHash, hsL, bytesV] using this
set_option maxHeartbeats 400000 in
theorem full_any (s : Sha.HS) (hs : s.ok) (b : Nat) (w : World) (hH : IsHash w b s) :
    Calls Tryd.prog 67 #[.pointer (some ⟨b, 9, none⟩)] w fun e w' => e = .returned (.bool (decide (s.filled = 64))) ∧ w = w' := by
  have c := hH.filled hs
  clear hs hH
  go_enter Tryd.func67, Tryd.ntmps67
  go_wp2
  go_ret
  refine ⟨?_, rfl⟩
  by_cases h : s.filled = 64
  · simp [h]
  · have e : ((s.filled : Int) == 64) = false := beq_eq_false_iff_ne.2 (by omega)
    simp [h, e]
theorem full_yes (s : Sha.HS) (hs : s.ok) (h : s.filled = 64) (b : Nat) (w : World) (hH : IsHash w b s) :
    Calls Tryd.prog 67 #[.pointer (some ⟨b, 9, none⟩)] w fun e w' => e = .returned (.bool true) ∧ w = w' :=
  (full_any s hs b w hH).mono fun _ _ ⟨h1, h2⟩ => ⟨by rw [h1]; simp [h], h2⟩
theorem full_no (s : Sha.HS) (hs : s.ok) (h : s.filled ≠ 64) (b : Nat) (w : World) (hH : IsHash w b s) :
    Calls Tryd.prog 67 #[.pointer (some ⟨b, 9, none⟩)] w fun e w' => e = .returned (.bool false) ∧ w = w' :=
  (full_any s hs b w hH).mono fun _ _ ⟨h1, h2⟩ => ⟨by rw [h1]; simp [h], h2⟩
theorem slice47l (a : Addr) (l : Nat) (hl : l < 64) (L : Int) (hL : L = l) (W : World) :
    (Instr.sliceAt 112 (.pointer (some a)) (some (.int .i64 L)) none none).run Tryd.prog W = .ok (.slice (some (a.add l)) (64 - l) (64 - l)) W := by
  have e : Tryd.prog.arrayLen 112 = 64 := by kernel_rfl
  have z : ∀ W, (sizeOf (Tryd.prog.elem 112)).run Tryd.prog W = .ok 1 W := fun W => by kernel_rfl
  rw [run_sliceAt_array_l W 112 a (by kernel_rfl) .i64 L (by omega) (by rw [e]; omega), z]
  subst hL
  have h64 : 64 ≠ l := by omega
  simp [slicedAt, e, Result.andThen, h64]
theorem bytesV_mem (ws : List Nat) : ∀ v ∈ (bytesV ws).toList, v.oneCell' = true := by
  intro v hv
  simp only [bytesV, List.mem_map] at hv
  obtain ⟨x, _, rfl⟩ := hv
  rfl
theorem bytesV_one (ws : List Nat) : (bytesV ws).all (·.oneCell') = true := by
  simp [bytesV, Value.oneCell']
set_option maxRecDepth 100000 in
set_option maxHeartbeats 1000000 in
theorem take_any (s : Sha.HS) (hs : s.ok) (hf : s.filled < 64) (b : Nat) (w : World) (hH : IsHash w b s) (l : List Nat) (sb so n c : Nat) (_hne : sb ≠ b) (hn : l.length = n) (_hn0 : 0 < n) (_hc : n ≤ c) (hlt : ∀ x ∈ l, x < 256) (hcell : ∀ j, j < n → w.cell? ⟨sb, so + j, none⟩ = some (.int .u8 (l.getD j 0 : Nat))) :
    Calls Tryd.prog 66 #[.pointer (some ⟨b, 9, none⟩), .slice (some ⟨sb, so, none⟩) n c] w fun e w' =>
      e = .returned (.slice (some (if c = s.room l then ⟨sb, so, none⟩ else ⟨sb, so + s.room l, none⟩)) (n - s.room l) (c - s.room l)) ∧ w.grownBy w' (some b) ∧ IsHash w' b (s.take l) := by
  have c73 := hH.filled hs
  have HH := Lib.hid hH
  have Hs := Lib.hid hs
  have Hcell := Lib.hid hcell
  have Hn := Lib.hid hn
  have Hlt := Lib.hid hlt
  clear hH hs hcell hn hlt
  have hsl : ∀ W, (Instr.sliceAt 112 (.pointer (some ⟨b, 9, none⟩)) (some (.int .i64 (s.filled : Int))) none none).run Tryd.prog W = .ok (.slice (some ⟨b, 9 + s.filled, none⟩) (64 - s.filled) (64 - s.filled)) W := fun W => by
    rw [slice47l _ s.filled hf _ rfl, Addr.add_mid]
  obtain ⟨m, hm⟩ : ∃ m, m = s.room l := ⟨_, rfl⟩
  have Hm := Lib.hid hm
  have m1 : m ≤ n := by rw [hm, ← Hn.out]; exact Sha.HS.room_le _ _
  have m2 : m ≤ 64 - s.filled := by rw [hm]; exact Sha.HS.room_le' _ _
  have Hcs : Hid ((l.take m).length = m) := Lib.hid (by rw [List.length_take, Hn.out]; omega)
  rw [← hm]
  clear hm
  go_enter Tryd.func66, Tryd.ntmps66
  go_wp2
  refine wp_region_quiet_tail (fun w' => ∃ n, w' = w.drewN n) 9 (by kernel_rfl) (by kernel_rfl) ⟨1, rfl⟩ ?_
  simp only [List.take_succ_cons, List.take_zero, List.drop_succ_cons, List.drop_zero]
  repeat (first | go_big_quiet_step (fail) | quiet_step (fail))
  refine wpQuiet_nil ?_
  rintro _ ⟨nq, rfl⟩
  have hcp : (Builtin.copy_ #[22, 22] 3 #[.slice (some ⟨b, 9 + s.filled, none⟩) (64 - s.filled) (64 - s.filled), .slice (some ⟨sb, so, none⟩) n c]).run Tryd.prog (w.drewN nq) =
      .ok (goInt m) ((w.drewN nq).setCells b (9 + s.filled) (bytesV (l.take m)).toList) := by
    have := run_copy_cells (P := Tryd.prog) (w.drewN nq) 22 22 3 5 b (9 + s.filled) (64 - s.filled) (64 - s.filled) ⟨sb, so, none⟩ n c (bytesV (l.take m)).toList Tryd.underlying22 (by kernel_rfl)
      (by rw [Array.length_toList, bytesV_size, Hcs.out, Hm.out]; unfold Sha.HS.room; rw [Hn.out]; exact Nat.min_comm _ _)
      (fun j v hv => by
        have hj : j < m := by have := (List.getElem?_eq_some_iff.1 hv).1; simpa [bytesV_size, Hcs.out] using this
        rw [Addr.add_mid, World.cell?_drewN, Hcell.out j (by omega), ← hv]
        simp [bytesV, hj, List.getElem?_eq_getElem (show j < l.length by rw [Hn.out]; omega)])
      (fun j hj => ((HH.out.there Hs.out (9 + s.filled) m (by omega)) j (by simpa [bytesV_size, Hcs.out] using hj)).1)
      (fun j hj => ((HH.out.there Hs.out (9 + s.filled) m (by omega)) j (by simpa [bytesV_size, Hcs.out] using hj)).2)
      (bytesV_mem _)
    rw [Array.length_toList, bytesV_size, Hcs.out] at this
    exact this
  obtain ⟨W, hW⟩ : ∃ W, W = (w.drewN nq).setCells b (9 + s.filled) (bytesV (l.take m)).toList := ⟨_, rfl⟩
  rw [← hW] at hcp
  have hlen : (s.bytes.take s.filled).length = s.filled := by rw [List.length_take, Hs.out.len]; omega
  have hH2 : IsHash W b { s with bytes := s.bytes.take s.filled ++ (l.take m ++ s.bytes.drop (s.filled + m)) } := by
    have := (show IsHash (w.drewN nq) b s from HH.out).setBytes (s.bytes.take s.filled) ((s.bytes.drop s.filled).take m) (s.bytes.drop (s.filled + m)) (l.take m)
      (by rw [← List.drop_drop, List.take_append_drop, List.take_append_drop]) (by rw [Hcs.out, List.length_take, List.length_drop, Hs.out.len]; omega)
    rw [hlen, ← hW] at this
    exact this
  have hs2 : Sha.HS.ok { s with bytes := s.bytes.take s.filled ++ (l.take m ++ s.bytes.drop (s.filled + m)) } := by
    have := Sha.HS.take_ok Hs.out (l := l) Hlt.out
    refine ⟨this.words, ?_, ?_, Hs.out.filled, Hs.out.blocks⟩
    · rw [Hm.out]; exact this.len
    · rw [Hm.out]; exact this.lt
  have hg2 : w.grownBy W (some b) := by rw [hW]; exact grown_setCells b (.inr rfl) _ _ _ (grown_drewN (grown_refl _ _) _)
  have d73 := hH2.filled hs2
  have f73 := hH2.free 73
  have HG := Lib.hid hg2
  have H2 := Lib.hid hH2
  have HS2 := Lib.hid hs2
  clear hlen hH2 hs2 hg2 hW c73
  go_wp2
  all_goals
    go_ret
    refine ⟨rfl, grown_set HG.out (.inr rfl) _, ?_⟩
    have := H2.out.setFilled HS2.out.len (s.filled + m)
    rw [show ((s.filled + m : Nat) : Int) = (s.filled : Int) + (m : Int) by simp] at this
    rw [show s.take l = _ from rfl]
    unfold Sha.HS.take
    rw [← Hm.out]
    exact this
end Go.Proofs.YtgdnndapmcjoeaaDoor
namespace Go.Proofs.YtgdnndapmcjoeaaDoor
open Go.RowKit
theorem IsHash.bytesR {w : World} {b : Nat} {s : Sha.HS} (h : IsHash w b s) : w.rangeAt b 9 (bytesV s.bytes).toList := by
  have := range_blk (w := w) (b := b) (pre := (stV s.words).toList ++ [.int .i64 (s.blocks : Int)]) (cs := (bytesV s.bytes).toList) (post := [.int .i64 (s.filled : Int)]) (t := 142) (fr := (0, 0)) (by
    rw [List.append_assoc, List.append_assoc]; exact h)
  exact this
set_option maxRecDepth 100000 in
set_option maxHeartbeats 1000000 in
theorem write_core (s : Sha.HS) (M : List Nat) (hR : Sha.Rep s M) (b : Nat) (hb2 : 29 < b) (w : World) (hH : IsHash w b s) (hL : Laid w) (l : List Nat) (hlt : ∀ x ∈ l, x < 256) (hM : M.length + l.length < 1152921504606846976)
    (a : Option Addr) (sb so n c : Nat) (hn : l.length = n) (hc : n ≤ c) (ha : 0 < n → a = some ⟨sb, so, none⟩ ∧ sb < w.heap.size ∧ sb ≠ b)
    (hcell : ∀ j, j < n → w.cell? ⟨sb, so + j, none⟩ = some (.int .u8 (l.getD j 0 : Nat))) (hnl : n ≤ 9223372036854775807) :
    Calls Tryd.prog 57 #[.pointer (some ⟨b, 0, none⟩), .slice a n c] w fun e w' =>
      e = .returned (.tuple #[]) ∧ w.grownBy w' (some b) ∧ ∃ s', IsHash w' b s' ∧ Sha.Rep s' (M ++ l) := by
  have HH := Lib.hid hH
  have HR := Lib.hid hR
  have HL := Lib.hid hL
  have Hlt := Lib.hid hlt
  have HM := Lib.hid hM
  have Hn := Lib.hid hn
  have Ha := Lib.hid ha
  have Hcell := Lib.hid hcell
  have hbl := hH.lt
  clear hH hR hL hlt hM hn ha hcell
  go_enter Tryd.func57, Tryd.ntmps57
  go_wp2
  go_loopw [1] (fun v wr => ∃ (k : Nat) (a' : Option Addr) (s' : Sha.HS), k ≤ n ∧ v = .slice a' (n - k) (c - k) ∧ (k < n → a' = some ⟨sb, so + k, none⟩) ∧ w.grownBy wr (some b) ∧ IsHash wr b s' ∧ Sha.Rep s' (M ++ l.take k))
    (fun v _ => match v with | .slice _ m _ => m | _ => 0)
  case atStart => exact ⟨0, a, s, Nat.zero_le _, rfl, fun h => (Ha.out h).1, grown_refl _ _, HH.out, by simpa using HR.out⟩
  case round =>
    obtain ⟨k, a', s', hk, rfl, ha', hg, hH, hR⟩ := hrel
    by_cases hkn : k < n
    · obtain rfl := ha' hkn
      have hne : sb ≠ b := (Ha.out (by omega)).2.2
      have hT := take_any s' hR.ok hR.filled b wr hH (l.drop k) sb (so + k) (n - k) (c - k) hne (by rw [List.length_drop, Hn.out]) (by omega) (by omega) (fun x hx => Hlt.out x (List.mem_of_mem_drop hx))
        (fun j hj => by
          have := Hcell.out (k + j) (by omega)
          rw [World.cell?_of_block (hg.block sb (Ha.out (by omega)).2.1 (by simpa using hne)), Nat.add_assoc, this]
          simp)
      have HT := Lib.hid hT
      clear hT ha'
      have HG := Lib.hid hg
      have HR' := Lib.hid hR
      have HH' := Lib.hid hH
      clear hg hR hH
      obtain ⟨s1, hs1⟩ : ∃ s1, s1 = s'.take (l.drop k) := ⟨_, rfl⟩
      obtain ⟨m, hm⟩ : ∃ m, m = s'.room (l.drop k) := ⟨_, rfl⟩
      rw [← hs1, ← hm] at HT
      have hok1 : s1.ok := by rw [hs1]; exact Sha.HS.take_ok HR'.out.ok (fun x hx => Hlt.out x (List.mem_of_mem_drop hx))
      have hdl : (l.drop k).length = n - k := by rw [List.length_drop, Hn.out]
      have m0 : 0 < m := by
        have := HR'.out.filled
        rw [hm]; unfold Sha.HS.room; rw [hdl]; omega
      have m1 : m ≤ n - k := by rw [hm, ← hdl]; exact Sha.HS.room_le _ _
      have htk : l.take (k + m) = l.take k ++ (l.drop k).take m := List.take_add
      have HTK := Lib.hid htk
      obtain ⟨p, hp⟩ : ∃ p : Addr, p = if c - k = m then ⟨sb, so + k, none⟩ else ⟨sb, so + k + m, none⟩ := ⟨_, rfl⟩
      have Hp : Hid (k + m < n → some p = some ⟨sb, so + (k + m), none⟩) := Lib.hid (fun h => by rw [hp, if_neg (by omega), Nat.add_assoc])
      rw [← hp] at HT
      clear hp
      have Hok1 := Lib.hid hok1
      by_cases hF : s1.filled = 64
      · have hbk : s'.blocks + 1 < 1152921504606846976 := by
          have h1 := HR'.out.len
          have h2 := HM.out
          rw [List.length_append, List.length_take, Hn.out] at h1
          rw [Hn.out] at h2
          omega
        have Hmk := Lib.hid (Sha.HS.mix_ok hok1 s1.bytes (by rw [hs1]; exact hbk))
        have hR2 : Sha.Rep { s1.mix s1.bytes with filled := 0 } (M ++ l.take (k + m)) := by
          rw [htk, ← List.append_assoc, hm]
          have := HR'.out.full (l := l.drop k) (fun x hx => Hlt.out x (List.mem_of_mem_drop hx)) (by rw [← hs1]; exact hF) hbk
          rw [← hs1] at this
          exact this
        obtain ⟨s2, hs2⟩ : ∃ s2, s2 = s1.mix s1.bytes := ⟨_, rfl⟩
        rw [← hs2] at hR2 Hmk
        have Hs2 := Lib.hid hs2
        have HR2 := Lib.hid hR2
        have HF := Lib.hid hF
        clear hs1 hm hok1 hR2 hF htk hdl hbk hs2
        go_wp2_with (first
          | (go_at_call 66; refine HT.out.mono ?_; rintro e w1 ⟨rfl, hg1, hH1⟩; have HG1 := Lib.hid hg1; have HH1 := Lib.hid hH1; clear hg1 hH1)
          | (go_at_call 67; refine (full_yes s1 Hok1.out HF.out b w1 HH1.out).mono ?_; rintro e w' ⟨rfl, rfl⟩))
        refine wp_region_quiet_tail (fun w' => ∃ n, w' = w1.drewN n) 8 (by kernel_rfl) (by kernel_rfl) ⟨1, rfl⟩ ?_
        simp only [List.take_succ_cons, List.take_zero, List.drop_succ_cons, List.drop_zero]
        iterate 7 (go_big_quiet_step (fail))
        refine wpQuiet_load_mid (by rfl) 112 (.tmp 22) (by rfl) b 9 (by rfl) (bytesV s1.bytes).toList _ (fun w' hw' => by obtain ⟨q, rfl⟩ := hw'; exact HH1.out.bytesR) Tryd.underlying112 (by rfl) (by rw [Array.length_toList, bytesV_size, Hok1.out.len]; kernel_rfl) ?_
        refine wpQuiet_nil ?_
        rintro _ ⟨q, rfl⟩
        simp only [Act.put, List.setIfInBounds_toArray, List.set_cons_succ, List.set_cons_zero, Array.toArray_toList]
        go_wp2_with fail
        have hLq : Laid (w1.drewN q) := (HL.out.grown HG.out (by simp; omega) (by simp; omega)).grown (grown_drewN HG1.out q) (by simp; omega) (by simp; omega)
        refine (mix_any s1 s1.bytes Hok1.out Hok1.out.len Hok1.out.lt b (w1.drewN q) HH1.out hb2 hLq).mono ?_
        clear hLq
        rintro e w2 ⟨rfl, hg2, hH2⟩
        rw [← Hs2.out] at hH2
        have c73 := hH2.filled Hmk.out
        have f73 := hH2.free 73
        have HG2 := Lib.hid hg2
        have HH2 := Lib.hid hH2
        clear hg2 hH2
        go_wp2
        go_roundw
        case rel =>
          refine ⟨k + m, some p, _, by omega, by rw [Nat.sub_sub, Nat.sub_sub], Hp.out, ?_, HH2.out.setFilled Hmk.out.len 0, HR2.out⟩
          exact grown_set (grown_trans (grown_trans HG.out HG1.out) (grown_of_drewN HG2.out)) (.inr rfl) _
        case measure => simp; omega
      · have hR2 : Sha.Rep s1 (M ++ l.take (k + m)) := by
          rw [htk, ← List.append_assoc, hm]
          have := HR'.out.take (l := l.drop k) (fun x hx => Hlt.out x (List.mem_of_mem_drop hx)) (by rw [← hs1]; exact hF)
          rw [← hs1] at this
          exact this
        have HR2 := Lib.hid hR2
        have HF := Lib.hid hF
        clear hs1 hm hok1 hR2 hF htk hdl
        go_wp2_with (first
          | (go_at_call 66; refine HT.out.mono ?_; rintro e w1 ⟨rfl, hg1, hH1⟩; have HG1 := Lib.hid hg1; have HH1 := Lib.hid hH1; clear hg1 hH1)
          | (go_at_call 67; refine (full_no s1 Hok1.out HF.out b w1 HH1.out).mono ?_; rintro e w' ⟨rfl, rfl⟩))
        go_roundw
        case rel => exact ⟨k + m, some p, _, by omega, by rw [Nat.sub_sub, Nat.sub_sub], Hp.out, grown_trans HG.out HG1.out, HH1.out, HR2.out⟩
        case measure => simp; omega
    · obtain rfl : k = n := by omega
      have HG := Lib.hid hg
      have HR' := Lib.hid hR
      have HH' := Lib.hid hH
      clear hg hR hH ha'
      go_wp2
      go_end0
      refine ⟨rfl, HG.out, s', HH'.out, ?_⟩
      have := HR'.out
      rwa [List.take_of_length_le (by rw [Hn.out]; omega)] at this
end Go.Proofs.YtgdnndapmcjoeaaDoor
