import Derived.Test.YtmnnhfinmjaccaaDoorKd05
import Derived.Test.YtmnnhfinmjaccaaDoorKd23
import Derived.Test.YtmnnhfinmjaccaaDoorKd33
import Derived.BigQuiet
import Derived.DeepKeys5
import Derived.Handy
namespace Go.Proofs.YtmnnhfinmjaccaaDoor
open Go.RowKit Go.Maps
set_option linter.unusedVariables false
theorem kS : Keyed Tryd.prog 9 := string_keyed Tryd.underlying9
theorem mapKT : Tryd.prog.underlying 80 = some (.map 9 64) := Tryd.underlying80
theorem mapET : Tryd.prog.underlying 81 = some (.map 86 4) := Tryd.underlying81
theorem kE : Keyed Tryd.prog 86 := Keyed.of_law (deep_law_laid (by kernel_rfl) (m := 2) (by omega) (of_decide_eq_true (by kernel_rfl)) (by kernel_rfl) (by kernel_rfl))
theorem zK (w : World) : (zeroValue 64).run Tryd.prog w = .ok (.agg zeros32) w := by kernel_rfl
theorem zB (w : World) : (zeroValue 4).run Tryd.prog w = .ok (.bool false) w := by kernel_rfl
theorem keyS (s : ByteArray) (hs : s.size ≤ 1099511620000) : ∃ l, keyOf Tryd.prog 9 (.string s) = some l := ⟨_, Go.WideMaps.keyOf_string_mk Tryd.underlying9 (by unfold maxLen; omega)⟩
theorem eKey : Tryd.prog.keyType 86 = true := by kernel_rfl
theorem eCells : Tryd.prog.cellsOf 86 = 3 := by kernel_rfl
theorem sCells : Tryd.prog.cellsOf 9 = 1 := by kernel_rfl
theorem nTypes : ∃ n, Tryd.prog.types.size + 1 = n + 2 := ⟨Tryd.prog.types.size - 1, by have : 0 < Tryd.prog.types.size := of_decide_eq_true (by kernel_rfl); omega⟩
theorem keyE (a b c : ByteArray) (ha : a.size ≤ 1099511620000) (hb : b.size ≤ 1099511620000) (hc : c.size ≤ 1099511620000) : ∃ l, keyOf Tryd.prog 86 (.agg #[.string a, .string b, .string c]) = some l := by
  obtain ⟨n, hn⟩ := nTypes
  have h1 : a.size ≤ maxLen := by unfold maxLen; omega
  have h2 : b.size ≤ maxLen := by unfold maxLen; omega
  have h3 : c.size ≤ maxLen := by unfold maxLen; omega
  have hS : ∀ s : ByteArray, s.size ≤ maxLen → Tryd.prog.keyLits (n + 1) 9 [.string s] = some [.string s.data.toList] := fun s hs => by
    unfold Program.keyLits; rw [Tryd.underlying9]; simp [hs]
  unfold keyOf
  rw [hn, Tryd.underlying86]
  simp only [eKey, Value.formed, Tryd.underlying86, eCells]
  unfold Program.keyLits
  rw [Tryd.underlying86]
  simp [eCells, sCells, Value.cells, hS, h1, h2, h3]
section
set_option maxRecDepth 100000
theorem gnew_any (w : World) : Calls Tryd.prog 14 #[] w fun e w' => e = .returned (.pointer (some ⟨w.heap.size, 0, none⟩)) ∧ w' = w.alloc (.cells #[.map none, .map none] 83) := by
  go_enter Tryd.func14, Tryd.ntmps14
  go_wp2
  go_ret
  exact ⟨rfl, rfl⟩
/-- A key that it hasn't. -/
theorem reckon_none (A : Nat → Addr) (w : World) (b : Nat) (mk : Option Nat) (ov : Value) (id dom : ByteArray) (vm : Value) (hb : w.heap[b]? = some (.cells #[.map mk, ov] 83 (0, 0))) (hl : (Instr.lookup 80 (.map mk) (.string id) true).run Tryd.prog w = .ok (.tuple #[.agg zeros32, .bool false]) w) (hE : AllErrs w A) :
    Calls Tryd.prog 33 #[.pointer (some ⟨b, 0, none⟩), .string id, .string dom, vm] w fun e w' => e = .returned (.tuple #[.slice none 0 0, errV A 10]) ∧ w.grownBy w' none := by
  have e10 := errs_at hE 10 (by decide)
  have HL10 := hE.lt 9 (by decide)
  simp only [errVars, List.getD_cons_zero, List.getD_cons_succ, Nat.add_one_sub_one] at e10 HL10
  have c0 := cell_blk hb 0 rfl
  have Z0 := Lib.hid (alloc_at w (.cells zeros32 64))
  have HI : Hid ((Tryd.prog.info? 64).map (·.size) = some zeros32.size) := Lib.hid (by kernel_rfl)
  have HO : Hid (zeros32.all (·.oneCell') = true) := Lib.hid (bytesV_one _)
  have hz32 := zeros32_at w
  have E10 := Lib.hid (show ∀ W, w.grownBy W none → W.cell? ⟨9, 0, none⟩ = some (errV A 10) from fun W hW => by rw [World.cell?_of_block (hW.block _ HL10 (by simp))]; exact e10)
  clear hb hE e10 HL10
  go_enter Tryd.func33, Tryd.ntmps33
  go_wp2_with (refine wpList_store_row (by rfl) 64 (.tmp 10) (.tmp 24) (by rfl) w.heap.size zeros32 (by rfl) (by rfl) _ _ Z0.out HI.out rfl HO.out ?_; obtain ⟨W2, hW2⟩ : ∃ W2, W2 = (w.alloc (.cells zeros32 64)).setRow w.heap.size zeros32 := ⟨_, rfl⟩; rw [← hW2]; have g2 : Hid (w.grownBy W2 none) := Lib.hid (by rw [hW2]; exact grown_setRow (World.grownBy_alloc _ _ _) (Nat.le_refl _) _); have e10 := E10.out W2 g2.out; clear hW2)
  go_quiet (fail)
  go_wp2
  go_returns
  exact ⟨rfl, grown_drewN g2.out _⟩
end
end Go.Proofs.YtmnnhfinmjaccaaDoor
namespace Go.Proofs.YtmnnhfinmjaccaaDoor
open Go.RowKit Go.Maps
set_option linter.unusedVariables false
theorem row_bytes {w : World} {g : Nat} {k : List Nat} (h8 : ∀ x ∈ k, x < 256) (h : w.heap[g]? = some (.cells (bytesV k) 64 (0, 0))) : Bytes w (.slice (some ⟨g, 0, none⟩) k.length k.length) k :=
  ⟨h8, some ⟨g, 0, none⟩, g, 0, k.length, rfl, Nat.le_refl _, fun _ => ⟨rfl, blk_lt h⟩, fun j hj => by rw [Nat.zero_add]; exact cell_blk h j (bytesV_at k j hj)⟩
theorem one_part {w : World} {g : Nat} {v : Value} {m : List Nat} (h : w.heap[g]? = some (.cells #[v] 22 (0, 0))) (hB : Bytes w v m) (h0 : Whole0 v) : PartsW w g 0 [m] := fun i hi => by
  match i, hi with
  | 0, _ => exact ⟨v, cell_blk h 0 rfl, hB, h0⟩
set_option maxRecDepth 100000 in
set_option maxHeartbeats 400000 in
/-- A key that it has, and a word that is right. -/
theorem reckon_ok (A : Nat → Addr) (w : World) (b : Nat) (mk : Option Nat) (ov : Value) (id dom : ByteArray) (va : Option Addr) (vc : Nat) (m k : List Nat) (hb : w.heap[b]? = some (.cells #[.map mk, ov] 83 (0, 0))) (hl : (Instr.lookup 80 (.map mk) (.string id) true).run Tryd.prog w = .ok (.tuple #[.agg (bytesV k), .bool true]) w) (hE : AllErrs w A) (hL : Laid w)
    (hk : k.length = 32) (hk8 : ∀ x ∈ k, x < 256) (hm : Bytes w (.slice va m.length vc) m) (hm0 : Whole0 (.slice va m.length vc)) (hd : dom.size ≤ 1099511620000) (h0 : fErr (strL dom) [m] = 0) :
    Calls Tryd.prog 33 #[.pointer (some ⟨b, 0, none⟩), .string id, .string dom, .slice va m.length vc] w fun e w' => w.grownBy w' none ∧ ∃ g, e = .returned (.tuple #[.slice (some ⟨g, 0, none⟩) 32 32, .nilIface]) ∧ w.heap.size ≤ g ∧ w'.heap[g]? = some (.cells (bytesV (Hm.hmac k (frameOf (strL dom) [m]))) 64 (0, 0)) := by
  have c0 := cell_blk hb 0 rfl
  obtain ⟨K, hK⟩ : ∃ K, K = bytesV k := ⟨_, rfl⟩
  have hKs : K.size = 32 := by rw [hK, bytesV_size, hk]
  have Z0 := Lib.hid (alloc_at w (.cells zeros32 64))
  have HI : Hid ((Tryd.prog.info? 64).map (·.size) = some K.size) := Lib.hid (by rw [hKs]; kernel_rfl)
  have HIz : Hid (zeros32.size = K.size) := Lib.hid (by rw [hKs]; rfl)
  have HO : Hid (K.all (·.oneCell') = true) := Lib.hid (by rw [hK]; exact bytesV_one _)
  have hz32 := zeros32_at w
  obtain ⟨D, hD⟩ : ∃ D, D = bytesV (Hm.hmac k (frameOf (strL dom) [m])) := ⟨_, rfl⟩
  have hDs : D.size = 32 := by rw [hD, bytesV_size, hmac_len]
  have HID : Hid ((Tryd.prog.info? 64).map (·.size) = some D.size) := Lib.hid (by rw [hDs]; kernel_rfl)
  have HIzD : Hid (zeros32.size = D.size) := Lib.hid (by rw [hDs]; rfl)
  have HOD : Hid (D.all (·.oneCell') = true) := Lib.hid (by rw [hD]; exact bytesV_one _)
  have HT : Hid (∀ W g, w.grownBy W none → W.heap[w.heap.size]? = some (.cells K 64 (0, 0)) → W.heap[g]? = some (.cells #[.slice va m.length vc] 22 (0, 0)) →
      Calls Tryd.prog 29 #[.slice (some ⟨w.heap.size, 0, none⟩) 32 32, .string dom, .slice (some ⟨g, 0, none⟩) 1 1] W fun e w' => e = .returned (.tuple #[.agg D, .nilIface]) ∧ W.grownBy w' none) := Lib.hid (fun W g hg h1 h2 => by
    rw [hK] at h1
    have hB := row_bytes hk8 h1
    rw [hk] at hB
    have := macTag_any (A := A) _ k dom [m] (some ⟨g, 0, none⟩) g 0 1 1 rfl W hB (by omega) (fun _ => ⟨rfl, blk_lt h2⟩) (one_part h2 (hm.grown hg) hm0) hd (by omega) (hL.grown hg (by simp) (by simp)) (hE.grown hg)
    unfold tagOut at this
    rw [if_pos h0, ← hD] at this
    exact this)
  rw [← hK] at hl
  rw [← hD]
  clear hb hE hL hK hKs hk hk8 hm hm0 hd h0 hD hDs
  generalize m.length = ml at *
  go_enter Tryd.func33, Tryd.ntmps33
  go_wp2_with (first
    | (refine wpList_store_row (by rfl) 64 (.tmp 10) (.tmp 24) (by rfl) w.heap.size K (by rfl) (by rfl) _ _ Z0.out HI.out HIz.out HO.out ?_; obtain ⟨W2, hW2⟩ : ∃ W2, W2 = (w.alloc (.cells zeros32 64)).setRow w.heap.size K := ⟨_, rfl⟩; rw [← hW2]; have g2 : Hid (w.grownBy W2 none) := Lib.hid (by rw [hW2]; exact grown_setRow (World.grownBy_alloc _ _ _) (Nat.le_refl _) _); have b2 : Hid (W2.heap[w.heap.size]? = some (.cells K 64 (0, 0))) := Lib.hid (by rw [hW2]; exact setRow_heap _ _ _ _ _ _ Z0.out); clear hW2)
    | (go_at_call 29; obtain ⟨W3, hW3⟩ : ∃ W3, W3 = W2.alloc (.cells #[.slice va ml vc] 22) := ⟨_, rfl⟩; rw [← hW3]; have g3 : Hid (w.grownBy W3 none) := Lib.hid (by rw [hW3]; exact grown_alloc g2.out _); refine (HT.out W3 W2.heap.size g3.out (by rw [hW3]; exact alloc_keep b2.out) (by rw [hW3]; exact alloc_at _ _)).mono ?_; rintro e w4 ⟨rfl, hg4⟩; have g4 := Lib.hid (grown_trans g3.out hg4); have Z4 := Lib.hid (alloc_at w4 (.cells zeros32 64)); clear hg4 hW3)
    | (refine wpList_store_row (by rfl) 64 (.tmp 12) (.tmp 35) (by rfl) w4.heap.size D (by rfl) (by rfl) _ _ Z4.out HID.out HIzD.out HOD.out ?_; obtain ⟨W5, hW5⟩ : ∃ W5, W5 = (w4.alloc (.cells zeros32 64)).setRow w4.heap.size D := ⟨_, rfl⟩; rw [← hW5]; have g5 : Hid (w.grownBy W5 none) := Lib.hid (by rw [hW5]; exact grown_setRow (grown_alloc g4.out _) g4.out.size _); have b5 : Hid (W5.heap[w4.heap.size]? = some (.cells D 64 (0, 0))) := Lib.hid (by rw [hW5]; exact setRow_heap _ _ _ _ _ _ Z4.out); clear hW5))
  go_returns
  exact ⟨g5.out, _, rfl, g4.out.size, b5.out⟩
set_option maxRecDepth 100000 in
set_option maxHeartbeats 400000 in
/-- A key that it has, and a word that is wrong. -/
theorem reckon_err (A : Nat → Addr) (w : World) (b : Nat) (mk : Option Nat) (ov : Value) (id dom : ByteArray) (va : Option Addr) (vc : Nat) (m k : List Nat) (hb : w.heap[b]? = some (.cells #[.map mk, ov] 83 (0, 0))) (hl : (Instr.lookup 80 (.map mk) (.string id) true).run Tryd.prog w = .ok (.tuple #[.agg (bytesV k), .bool true]) w) (hE : AllErrs w A) (hL : Laid w)
    (hk : k.length = 32) (hk8 : ∀ x ∈ k, x < 256) (hm : Bytes w (.slice va m.length vc) m) (hm0 : Whole0 (.slice va m.length vc)) (hd : dom.size ≤ 1099511620000) (h0 : fErr (strL dom) [m] ≠ 0) :
    Calls Tryd.prog 33 #[.pointer (some ⟨b, 0, none⟩), .string id, .string dom, .slice va m.length vc] w fun e w' => e = .returned (.tuple #[.slice none 0 0, errV A (fErr (strL dom) [m])]) ∧ w.grownBy w' none := by
  have c0 := cell_blk hb 0 rfl
  obtain ⟨K, hK⟩ : ∃ K, K = bytesV k := ⟨_, rfl⟩
  have hKs : K.size = 32 := by rw [hK, bytesV_size, hk]
  have Z0 := Lib.hid (alloc_at w (.cells zeros32 64))
  have HI : Hid ((Tryd.prog.info? 64).map (·.size) = some K.size) := Lib.hid (by rw [hKs]; kernel_rfl)
  have HIz : Hid (zeros32.size = K.size) := Lib.hid (by rw [hKs]; rfl)
  have HO : Hid (K.all (·.oneCell') = true) := Lib.hid (by rw [hK]; exact bytesV_one _)
  have hz32 := zeros32_at w
  obtain ⟨N, hN⟩ : ∃ N, N = fErr (strL dom) [m] := ⟨_, rfl⟩
  have HOz : Hid (zeros32.all (·.oneCell') = true) := Lib.hid (bytesV_one _)
  have HIzz : Hid ((Tryd.prog.info? 64).map (·.size) = some zeros32.size) := Lib.hid (by kernel_rfl)
  have HT : Hid (∀ W g, w.grownBy W none → W.heap[w.heap.size]? = some (.cells K 64 (0, 0)) → W.heap[g]? = some (.cells #[.slice va m.length vc] 22 (0, 0)) →
      Calls Tryd.prog 29 #[.slice (some ⟨w.heap.size, 0, none⟩) 32 32, .string dom, .slice (some ⟨g, 0, none⟩) 1 1] W fun e w' => e = .returned (.tuple #[.agg zeros32, errV A N]) ∧ W.grownBy w' none) := Lib.hid (fun W g hg h1 h2 => by
    rw [hK] at h1
    have hB := row_bytes hk8 h1
    rw [hk] at hB
    have := macTag_any (A := A) _ k dom [m] (some ⟨g, 0, none⟩) g 0 1 1 rfl W hB (by omega) (fun _ => ⟨rfl, blk_lt h2⟩) (one_part h2 (hm.grown hg) hm0) hd (by omega) (hL.grown hg (by simp) (by simp)) (hE.grown hg)
    unfold tagOut at this
    rw [if_neg h0, ← hN] at this
    exact this)
  rw [← hK] at hl
  rw [← hN]
  clear hb hE hL hK hKs hk hk8 hm hm0 hd h0 hN
  generalize m.length = ml at *
  go_enter Tryd.func33, Tryd.ntmps33
  go_wp2_with (first
    | (refine wpList_store_row (by rfl) 64 (.tmp 10) (.tmp 24) (by rfl) w.heap.size K (by rfl) (by rfl) _ _ Z0.out HI.out HIz.out HO.out ?_; obtain ⟨W2, hW2⟩ : ∃ W2, W2 = (w.alloc (.cells zeros32 64)).setRow w.heap.size K := ⟨_, rfl⟩; rw [← hW2]; have g2 : Hid (w.grownBy W2 none) := Lib.hid (by rw [hW2]; exact grown_setRow (World.grownBy_alloc _ _ _) (Nat.le_refl _) _); have b2 : Hid (W2.heap[w.heap.size]? = some (.cells K 64 (0, 0))) := Lib.hid (by rw [hW2]; exact setRow_heap _ _ _ _ _ _ Z0.out); clear hW2)
    | (go_at_call 29; obtain ⟨W3, hW3⟩ : ∃ W3, W3 = W2.alloc (.cells #[.slice va ml vc] 22) := ⟨_, rfl⟩; rw [← hW3]; have g3 : Hid (w.grownBy W3 none) := Lib.hid (by rw [hW3]; exact grown_alloc g2.out _); refine (HT.out W3 W2.heap.size g3.out (by rw [hW3]; exact alloc_keep b2.out) (by rw [hW3]; exact alloc_at _ _)).mono ?_; rintro e w4 ⟨rfl, hg4⟩; have g4 := Lib.hid (grown_trans g3.out hg4); have Z4 := Lib.hid (alloc_at w4 (.cells zeros32 64)); clear hg4 hW3)
    | (refine wpList_store_row (by rfl) 64 (.tmp 12) (.tmp 35) (by rfl) w4.heap.size zeros32 (by rfl) (by rfl) _ _ Z4.out HIzz.out rfl HOz.out ?_; obtain ⟨W5, hW5⟩ : ∃ W5, W5 = (w4.alloc (.cells zeros32 64)).setRow w4.heap.size zeros32 := ⟨_, rfl⟩; rw [← hW5]; have g5 : Hid (w.grownBy W5 none) := Lib.hid (by rw [hW5]; exact grown_setRow (grown_alloc g4.out _) g4.out.size _); clear hW5))
  go_returns
  exact ⟨rfl, g5.out⟩
end Go.Proofs.YtmnnhfinmjaccaaDoor
