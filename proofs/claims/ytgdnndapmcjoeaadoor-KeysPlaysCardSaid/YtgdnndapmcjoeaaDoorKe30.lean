import Derived.Test.YtgdnndapmcjoeaaDoorKe05
import Derived.Test.YtgdnndapmcjoeaaDoorKe21
import Derived.Test.YtgdnndapmcjoeaaDoorKe29
import Derived.BigQuiet
import Derived.Deep.RegionHeld3
import Derived.DeepKeys5
import Derived.Handy
namespace Go.Proofs.YtgdnndapmcjoeaaDoor
open Go.RowKit Go.Maps
set_option linter.unusedVariables false
theorem kS : Keyed Tryd.prog 9 := string_keyed Tryd.underlying9
theorem mapKT : Tryd.prog.underlying 80 = some (.map 9 64) := Tryd.underlying80
theorem mapET : Tryd.prog.underlying 81 = some (.map 86 4) := Tryd.underlying81
theorem kE : Keyed Tryd.prog 86 := Keyed.of_law (deep_law_laid (by kernel_rfl) (m := 3) (by omega) (of_decide_eq_true (by kernel_rfl)) (by kernel_rfl) (by kernel_rfl))
theorem zK (w : World) : (zeroValue 64).run Tryd.prog w = .ok (.agg zeros32) w := by kernel_rfl
theorem zB (w : World) : (zeroValue 4).run Tryd.prog w = .ok (.bool false) w := by kernel_rfl
theorem keyS (s : ByteArray) (hs : s.size ≤ 1099511620000) : ∃ l, keyOf Tryd.prog 9 (.string s) = some l := ⟨_, Go.WideMaps.keyOf_string_mk Tryd.underlying9 (by unfold maxLen; omega)⟩
theorem eKey : Tryd.prog.keyType 86 = true := by kernel_rfl
theorem eCells : Tryd.prog.cellsOf 86 = 34 := by kernel_rfl
theorem sCells : Tryd.prog.cellsOf 9 = 1 := by kernel_rfl
theorem bCells : Tryd.prog.cellsOf 64 = 32 := by kernel_rfl
theorem uCells : Tryd.prog.cellsOf 5 = 1 := by kernel_rfl
theorem nTypes : ∃ n, Tryd.prog.types.size + 1 = n + 3 := ⟨Tryd.prog.types.size - 2, by have : 2 ≤ Tryd.prog.types.size := of_decide_eq_true (by kernel_rfl); omega⟩
theorem mapM_some {α β : Type} (f : α → Option β) : ∀ l : List α, (∀ x ∈ l, ∃ y, f x = some y) → ∃ ys, l.mapM f = some ys
  | [], _ => ⟨[], rfl⟩
  | a :: r, h => by
    obtain ⟨y, hy⟩ := h a (by simp)
    obtain ⟨ys, hys⟩ := mapM_some f r (fun x hx => h x (by simp [hx]))
    exact ⟨y :: ys, by rw [List.mapM_cons, hy, hys]; rfl⟩
theorem keyA (n : Nat) (k : List Nat) (hk : k.length = 32) (h8 : ∀ x ∈ k, x < 256) : ∃ l, Tryd.prog.keyLits (n + 2) 64 (bytesV k).toList = some l := by
  unfold Program.keyLits
  rw [Tryd.underlying64]
  have hl : (bytesV k).toList.length = 32 := by rw [Array.length_toList, bytesV_size, hk]
  simp only [bCells, hl, uCells, if_true]
  have h := mapM_some (fun i => Tryd.prog.keyLits (n + 1) 5 (((bytesV k).toList.drop (i * 1)).take 1)) (List.range 32) (fun i hi => by
    have hi : i < 32 := List.mem_range.1 hi
    have hik : i < k.length := by omega
    have h1 := bytesV_at k i hik
    have h2 : ((bytesV k).toList.drop (i * 1)).take 1 = [.int .u8 (k.getD i 0 : Nat)] := by
      rw [Nat.mul_one]
      have h3 : (bytesV k).toList[i]? = some (.int .u8 (k.getD i 0 : Nat)) := by rw [Array.getElem?_toList]; exact h1
      obtain ⟨h4, h5⟩ := List.getElem?_eq_some_iff.1 h3
      rw [List.drop_eq_getElem_cons h4, h5]
      rfl
    have h9 : k.getD i 0 < 256 := by rw [List.getD_eq_getElem?_getD, List.getElem?_eq_getElem hik]; exact h8 _ (List.getElem_mem hik)
    refine ⟨[.int .u8 (k.getD i 0 : Nat)], ?_⟩
    show Tryd.prog.keyLits (n + 1) 5 _ = _
    rw [h2]
    unfold Program.keyLits
    rw [Tryd.underlying5]
    generalize k.getD i 0 = x at *
    have : (Lit.int .u8 (x : Nat)).wf = true := by
      have a : IntKind.u8.min = 0 := rfl
      have b : IntKind.u8.max = 255 := rfl
      simp only [Lit.wf, IntKind.has, a, b, Bool.and_eq_true, decide_eq_true_eq]; omega
    simp [this])
  obtain ⟨ys, hys⟩ := h
  exact ⟨ys.flatten, by rw [hys]; rfl⟩
theorem keyE (k : List Nat) (b c : ByteArray) (hk : k.length = 32) (h8 : ∀ x ∈ k, x < 256) (hb : b.size ≤ 1099511620000) (hc : c.size ≤ 1099511620000) : ∃ l, keyOf Tryd.prog 86 (.agg (bytesV k ++ #[.string b, .string c])) = some l := by
  obtain ⟨n, hn⟩ := nTypes
  have h2 : b.size ≤ maxLen := by unfold maxLen; omega
  have h3 : c.size ≤ maxLen := by unfold maxLen; omega
  have hS : ∀ s : ByteArray, s.size ≤ maxLen → Tryd.prog.keyLits (n + 2) 9 [.string s] = some [.string s.data.toList] := fun s hs => by
    unfold Program.keyLits; rw [Tryd.underlying9]; simp [hs]
  obtain ⟨ys, hys⟩ := keyA n k hk h8
  have hl : (bytesV k).toList.length = 32 := by rw [Array.length_toList, bytesV_size, hk]
  have hl' : (bytesV k).size = 32 := by rw [bytesV_size, hk]
  unfold keyOf
  rw [hn, Tryd.underlying86]
  simp only [eKey, Value.formed, Tryd.underlying86, eCells]
  unfold Program.keyLits
  rw [Tryd.underlying86]
  have t0 : ((bytesV k).toList ++ [Value.string b, .string c]).take 32 = (bytesV k).toList := by rw [List.take_append_of_le_length (by omega), List.take_of_length_le (by omega)]
  have t1 : ((bytesV k).toList ++ [Value.string b, .string c]).drop 32 = [.string b, .string c] := by rw [← hl, List.drop_left]
  have t2 : ((bytesV k).toList ++ [Value.string b, .string c]).drop 33 = [.string c] := by rw [show 33 = 32 + 1 from rfl, ← List.drop_drop, t1]; rfl
  simp [eCells, sCells, bCells, Value.cells, hS, hys, h2, h3, hl', t0, t1, t2]
section
set_option maxRecDepth 100000
theorem gnew_any (w : World) : Calls Tryd.prog 14 #[] w fun e w' => e = .returned (.pointer (some ⟨w.heap.size, 0, none⟩)) ∧ w' = w.alloc (.cells #[.map none, .map none] 83) := by
  go_enter Tryd.func14, Tryd.ntmps14
  go_wp2
  go_ret
  exact ⟨rfl, rfl⟩
/-- What the book has, when nothing is there. -/
def zEnt : Array Value := bytesV (List.replicate 32 0) ++ #[.string ⟨#[]⟩, .string ⟨#[]⟩]
theorem zEnt_at (w : World) : (zeroValue 86).run Tryd.prog w = .ok (.agg zEnt) w := by kernel_rfl
theorem results_row3 {P : Program} {fn : Func} {p u v : Tmp} {ty : TypeId} (h : fn.results = #[.cell p ty, .tmp u, .tmp v]) (tmps : Array Value) (w : World) (g : Nat) (t : TypeId) (cs : Array Value) (fr : Nat × Nat) (d : TypeDesc) (x y : Value)
    (hp : tmps.getD p undef = .pointer (some ⟨g, 0, none⟩)) (hg : w.heap[g]? = some (.cells cs t fr)) (hu : P.underlying ty = some d) (hd : (match d with | .struct _ | .array _ _ => true | _ => false) = true) (hi : (P.info? ty).map (·.size) = some cs.size)
    (hx : tmps.getD u undef = x) (hy : tmps.getD v undef = y) : (results fn tmps).run P w = .ok (.tuple #[.agg cs, x, y]) w := by
  have e : (results fn tmps).run P w = ((asAddr (tmps.getD p undef)).run P w).andThen fun a w₁ => ((loadVar ty a).run P w₁).andThen fun z w₂ => .ok (.tuple #[z, tmps.getD u undef, tmps.getD v undef]) w₂ := by
    simp only [results, h]
    simp [Sem.run_bind, Result.andThen]
  rw [e, hp, hx, hy]
  simp [asAddr, Sem.run_pure, Result.andThen, run_loadVar_row w g t ty cs fr d hg hu hd hi]
theorem run_storeRow {P : Program} {w : World} {g : Nat} {t : TypeId} {old cells : Array Value} (hg : w.heap[g]? = some (.cells old t (0, 0))) (ho : old.size = cells.size) (h1 : cells.all (·.oneCell') = true) : (storeCells ⟨g, 0, none⟩ cells.toList).run P w = .ok () (w.setRow g cells) := by
  have := run_storeCells_from (P := P) g t cells.toList 0 old w hg (by simp; omega) (fun v hv => (Array.all_eq_true_iff_forall_mem.1 h1) v (by simpa using hv))
  simpa using this
/-- A key that it hasn't. -/
theorem reckon_none (A : Nat → Addr) (w : World) (b : Nat) (mk : Option Nat) (ov : Value) (id dom : ByteArray) (vm : Value) (hb : w.heap[b]? = some (.cells #[.map mk, ov] 83 (0, 0))) (hl : ∀ W, w.grownBy W none → (Instr.lookup 80 (.map mk) (.string id) true).run Tryd.prog W = .ok (.tuple #[.agg zeros32, .bool false]) W) (hE : AllErrs w A) :
    Calls Tryd.prog 33 #[.pointer (some ⟨b, 0, none⟩), .string id, .string dom, vm] w fun e w' => e = .returned (.tuple #[.agg zEnt, .slice none 0 0, errV A 10]) ∧ w.grownBy w' none := by
  have e10 := errs_at hE 10 (by decide)
  have HL10 := hE.lt 9 (by decide)
  simp only [errVars, List.getD_cons_zero, List.getD_cons_succ, Nat.add_one_sub_one] at e10 HL10
  obtain ⟨Z, hZ⟩ : ∃ Z, Z = zEnt := ⟨_, rfl⟩
  have hz := zEnt_at
  rw [← hZ] at hz
  have HZs : Hid ((Tryd.prog.info? 86).map (·.size) = some Z.size) := Lib.hid (by rw [hZ]; kernel_rfl)
  have hZs : Z.size = 34 := by rw [hZ]; rfl
  have HZo : Hid (Z.all (·.oneCell') = true) := Lib.hid (by rw [hZ]; kernel_rfl)
  have G0 : Hid (w.grownBy (w.alloc (.cells Z 86)) none) := Lib.hid (World.grownBy_alloc _ _ _)
  have B0 : Hid ((w.alloc (.cells Z 86)).heap[w.heap.size]? = some (.cells Z 86 (0, 0))) := Lib.hid (alloc_at _ _)
  have c0 := cell_blk (alloc_keep (o := .cells Z 86) hb) 0 rfl
  have hl0 := hl _ G0.out
  have HI : Hid ((Tryd.prog.info? 64).map (·.size) = some zeros32.size) := Lib.hid (by kernel_rfl)
  have HO : Hid (zeros32.all (·.oneCell') = true) := Lib.hid (bytesV_one _)
  have hz32 := zeros32_at w
  have hsz : (w.alloc (.cells Z 86)).heap.size = w.heap.size + 1 := alloc_size _ _
  have Z0 := Lib.hid (alloc_at (w.alloc (.cells Z 86)) (.cells zeros32 64))
  have E10 := Lib.hid (show ∀ W, w.grownBy W none → W.cell? ⟨9, 0, none⟩ = some (errV A 10) from fun W hW => by rw [World.cell?_of_block (hW.block _ HL10 (by simp))]; exact e10)
  have NE10 : Hid (∀ n, w.heap.size + n ≠ 9) := Lib.hid (fun n => by omega)
  rw [hsz] at Z0
  clear hb hE e10 HL10 hsz hl
  rw [← hZ]
  clear hZ
  go_enter Tryd.func33, Tryd.ntmps33
  go_wp2_with (refine wpList_store_row (by rfl) 64 (.tmp 11) (.tmp 26) (by rfl) (w.heap.size + 1) zeros32 (by rfl) (by rfl) _ _ Z0.out HI.out rfl HO.out ?_; obtain ⟨W2, hW2⟩ : ∃ W2, W2 = ((w.alloc (.cells Z 86)).alloc (.cells zeros32 64)).setRow (w.heap.size + 1) zeros32 := ⟨_, rfl⟩; rw [← hW2]; have g2 : Hid (w.grownBy W2 none) := Lib.hid (by rw [hW2]; exact grown_setRow (grown_alloc G0.out _) (Nat.le_add_right _ _) _); have b2 : Hid (W2.heap[w.heap.size]? = some (.cells Z 86 (0, 0))) := Lib.hid (by rw [hW2, setRow_other _ _ _ _ (by omega)]; exact alloc_keep B0.out); have e10 := E10.out W2 g2.out; clear hW2)
  have hst := run_storeRow (P := Tryd.prog) (w := W2.drew) b2.out rfl HZo.out
  have b5 : Hid ((W2.drew.setRow w.heap.size Z).heap[w.heap.size]? = some (.cells Z 86 (0, 0))) := Lib.hid (setRow_heap _ _ _ _ _ _ b2.out)
  go_region_held3 (fun w' => w'.cell? ⟨9, 0, none⟩ = some (errV A 10))
    (first
      | exact e10
      | exact E10.out _ (grown_drewN g2.out 1)
      | exact E10.out _ (grown_setRow (grown_drewN g2.out 1) (Nat.le_refl _) _))
    (fail)
  go_wp2
  refine bodyPost_ret (v := .tuple #[.agg Z, .slice none 0 0, errV A 10]) (results_row3 Tryd.results33 _ _ w.heap.size _ _ (0, 0) _ _ _ rfl b5.out Tryd.underlying86 rfl HZs.out rfl rfl) rfl ⟨rfl, grown_setRow (grown_drewN g2.out 1) (Nat.le_refl _) _⟩
end
end Go.Proofs.YtgdnndapmcjoeaaDoor
namespace Go.Proofs.YtgdnndapmcjoeaaDoor
open Go.RowKit Go.Maps
set_option linter.unusedVariables false
theorem row_bytes {w : World} {g : Nat} {k : List Nat} (h8 : ∀ x ∈ k, x < 256) (h : w.heap[g]? = some (.cells (bytesV k) 64 (0, 0))) : Bytes w (.slice (some ⟨g, 0, none⟩) k.length k.length) k :=
  ⟨h8, some ⟨g, 0, none⟩, g, 0, k.length, rfl, Nat.le_refl _, fun _ => ⟨rfl, blk_lt h⟩, fun j hj => by rw [Nat.zero_add]; exact cell_blk h j (bytesV_at k j hj)⟩
theorem one_part {w : World} {g : Nat} {v : Value} {m : List Nat} (h : w.heap[g]? = some (.cells #[v] 22 (0, 0))) (hB : Bytes w v m) (h0 : Whole0 v) : PartsW w g 0 [m] := fun i hi => by
  match i, hi with
  | 0, _ => exact ⟨v, cell_blk h 0 rfl, hB, h0⟩
theorem fold_aux (l : List Value) : ∀ (n : Nat) (Z : List Value), n + l.length ≤ Z.length → (l.zipIdx n).foldl (fun (cs : Array Value) (x : Value × Nat) => cs.setIfInBounds x.snd x.fst) Z.toArray = (Z.take n ++ l ++ Z.drop (n + l.length)).toArray := by
  induction l with
  | nil => intro n Z _; simp
  | cons v r ih =>
    intro n Z h
    have hn : n < Z.length := by simp at h; omega
    rw [List.zipIdx_cons, List.foldl_cons]
    show List.foldl _ ((Z.toArray).setIfInBounds n v) _ = _
    rw [List.setIfInBounds_toArray, ih (n + 1) (Z.set n v) (by simp at h ⊢; omega)]
    congr 1
    rw [List.take_set, List.drop_set]
    have e : (Z.take (n + 1)).set n v = Z.take n ++ [v] := by
      rw [← List.take_append_getElem hn, List.set_append_right _ _ (by simp; omega)]
      have e0 : n - (Z.take n).length = 0 := by simp; omega
      rw [e0]; rfl
    rw [e]
    simp [Nat.add_assoc, Nat.add_comm 1 r.length]
theorem fold_row (K Z : Array Value) (h : K.size ≤ Z.size) : Array.foldl (fun cs (x : Value × Nat) => cs.setIfInBounds x.snd x.fst) Z K.zipIdx 0 K.size = K ++ Z.extract K.size Z.size := by
  obtain ⟨l⟩ := K
  obtain ⟨z⟩ := Z
  have := fold_aux l 0 z (by simpa using h)
  have e : (l.toArray).zipIdx.size = l.toArray.size := by simp
  have e2 : Array.foldl (fun cs (x : Value × Nat) => cs.setIfInBounds x.snd x.fst) z.toArray (l.toArray).zipIdx 0 l.toArray.size = (l.zipIdx 0).foldl (fun (cs : Array Value) (x : Value × Nat) => cs.setIfInBounds x.snd x.fst) z.toArray := by
    rw [← e, ← Array.foldl_toList, Array.toList_zipIdx]
  rw [e2, this]
  simp [List.extract_eq_take_drop, List.take_of_length_le]
theorem set_two (K : Array Value) (h : K.size = 32) (x y : Value) : ((K ++ zEnt.extract 32 zEnt.size).setIfInBounds 32 x).setIfInBounds 33 y = K ++ #[x, y] := by
  have e : zEnt.extract 32 zEnt.size = #[.string ⟨#[]⟩, .string ⟨#[]⟩] := by kernel_rfl
  rw [e]
  obtain ⟨l⟩ := K
  have h : l.length = 32 := by simpa using h
  simp [List.set_append, h]
set_option maxRecDepth 100000 in
set_option maxHeartbeats 400000 in
/-- A key that it has, and a word that is right. -/
theorem reckon_ok (A : Nat → Addr) (w : World) (b : Nat) (mk : Option Nat) (ov : Value) (id dom : ByteArray) (va : Option Addr) (vc : Nat) (m k : List Nat) (hb : w.heap[b]? = some (.cells #[.map mk, ov] 83 (0, 0))) (hl : ∀ W, w.grownBy W none → (Instr.lookup 80 (.map mk) (.string id) true).run Tryd.prog W = .ok (.tuple #[.agg (bytesV k), .bool true]) W) (hE : AllErrs w A) (hL : Laid w)
    (hk : k.length = 32) (hk8 : ∀ x ∈ k, x < 256) (hm : Bytes w (.slice va m.length vc) m) (hm0 : Whole0 (.slice va m.length vc)) (hd : dom.size ≤ 1099511620000) (h0 : fErr (strL dom) [m] = 0) :
    Calls Tryd.prog 33 #[.pointer (some ⟨b, 0, none⟩), .string id, .string dom, .slice va m.length vc] w fun e w' => w.grownBy w' none ∧ ∃ g, e = .returned (.tuple #[.agg (bytesV k ++ #[.string dom, .string (strOf m)]), .slice (some ⟨g, 0, none⟩) 32 32, .nilIface]) ∧ w.heap.size ≤ g ∧ w'.heap[g]? = some (.cells (bytesV (Hm.hmac k (frameOf (strL dom) [m]))) 64 (0, 0)) := by
  obtain ⟨Z, hZ⟩ : ∃ Z, Z = zEnt := ⟨_, rfl⟩
  have hz := zEnt_at
  rw [← hZ] at hz
  have hZs : Z.size = 34 := by rw [hZ]; rfl
  have HZs := Lib.hid hZs
  have HZo : Hid (Z.all (·.oneCell') = true) := Lib.hid (by rw [hZ]; kernel_rfl)
  have HZi : Hid ((Tryd.prog.info? 86).map (·.size) = some Z.size) := Lib.hid (by rw [hZ]; kernel_rfl)
  have G0 : Hid (w.grownBy (w.alloc (.cells Z 86)) none) := Lib.hid (World.grownBy_alloc _ _ _)
  have B0 : Hid ((w.alloc (.cells Z 86)).heap[w.heap.size]? = some (.cells Z 86 (0, 0))) := Lib.hid (alloc_at _ _)
  have c0 := cell_blk (alloc_keep (o := .cells Z 86) hb) 0 rfl
  have hl0 := hl _ G0.out
  obtain ⟨K, hK⟩ : ∃ K, K = bytesV k := ⟨_, rfl⟩
  have hKs : K.size = 32 := by rw [hK, bytesV_size, hk]
  have hsz : (w.alloc (.cells Z 86)).heap.size = w.heap.size + 1 := alloc_size _ _
  have Z0 := Lib.hid (alloc_at (w.alloc (.cells Z 86)) (.cells zeros32 64))
  rw [hsz] at Z0
  have HI : Hid ((Tryd.prog.info? 64).map (·.size) = some K.size) := Lib.hid (by rw [hKs]; kernel_rfl)
  have HIz : Hid (zeros32.size = K.size) := Lib.hid (by rw [hKs]; rfl)
  have HO : Hid (K.all (·.oneCell') = true) := Lib.hid (by rw [hK]; exact bytesV_one _)
  have hz32 := zeros32_at w
  obtain ⟨D, hD⟩ : ∃ D, D = bytesV (Hm.hmac k (frameOf (strL dom) [m])) := ⟨_, rfl⟩
  have hDs : D.size = 32 := by rw [hD, bytesV_size, hmac_len]
  have HID : Hid ((Tryd.prog.info? 64).map (·.size) = some D.size) := Lib.hid (by rw [hDs]; kernel_rfl)
  have HIzD : Hid (zeros32.size = D.size) := Lib.hid (by rw [hDs]; rfl)
  have HOD : Hid (D.all (·.oneCell') = true) := Lib.hid (by rw [hD]; exact bytesV_one _)
  obtain ⟨M, hM⟩ : ∃ M, M = strOf m := ⟨_, rfl⟩
  have HCV : Hid (∀ W, w.grownBy W none → (convert 22 9 (.slice va m.length vc)).run Tryd.prog W = .ok (.string M) W) := Lib.hid (fun W hW => by rw [hM]; exact conv_bytes (hm.grown hW) _ 5 _ Tryd.underlying22 Tryd.underlying5 Tryd.underlying9)
  obtain ⟨X, hX⟩ : ∃ X, X = K ++ #[Value.string dom, .string M] := ⟨_, rfl⟩
  have hXs : X.size = 34 := by rw [hX]; simp [hKs]
  have HX : Hid (X = K ++ #[Value.string dom, .string M]) := Lib.hid hX
  have HXi : Hid ((Tryd.prog.info? 86).map (·.size) = some X.size) := Lib.hid (by rw [hXs]; kernel_rfl)
  have HXo : Hid (X.all (·.oneCell') = true) := Lib.hid (by rw [hX, Array.all_append, HO.out]; simp [Value.oneCell'])
  have HXz : Hid (Z.size = X.size) := Lib.hid (by rw [hXs, hZs])
  have HKs := Lib.hid hKs
  have HXs := Lib.hid hXs
  have HY : Hid (∃ Y, Array.foldl (fun cs (x : Value × Nat) => cs.setIfInBounds x.snd x.fst) Z K.zipIdx 0 32 = Y ∧ Y.size = 34 ∧ (Y.setIfInBounds 32 (.string dom)).setIfInBounds 33 (.string M) = X) := Lib.hid (by
    have e := fold_row K Z (by rw [hKs, hZs]; decide)
    rw [hKs] at e
    refine ⟨_, e, by simp [hKs, hZs], ?_⟩
    rw [hX, hZ]
    exact set_two K hKs _ _)
  have HIl : Hid ((Tryd.prog.info? 64).map (·.size) = some K.toList.length) := Lib.hid (by rw [Array.length_toList, hKs]; kernel_rfl)
  have HT : Hid (∀ W g, w.grownBy W none → W.heap[w.heap.size + 1]? = some (.cells K 64 (0, 0)) → W.heap[g]? = some (.cells #[.slice va m.length vc] 22 (0, 0)) →
      Calls Tryd.prog 29 #[.slice (some ⟨w.heap.size + 1, 0, none⟩) 32 32, .string dom, .slice (some ⟨g, 0, none⟩) 1 1] W fun e w' => e = .returned (.tuple #[.agg D, .nilIface]) ∧ W.grownBy w' none) := Lib.hid (fun W g hg h1 h2 => by
    rw [hK] at h1
    have hB := row_bytes hk8 h1
    rw [hk] at hB
    have := macTag_any (A := A) _ k dom [m] (some ⟨g, 0, none⟩) g 0 1 1 rfl W hB (by omega) (fun _ => ⟨rfl, blk_lt h2⟩) (one_part h2 (hm.grown hg) hm0) hd (by omega) (hL.grown hg (by simp) (by simp)) (hE.grown hg)
    unfold tagOut at this
    rw [if_pos h0, ← hD] at this
    exact this)
  rw [← hK] at hl0
  rw [← hD, ← hK, ← hM, ← hX]
  clear hb hl hE hL hK hKs hk hk8 hm hm0 hd h0 hD hDs hZ hM hX hXs hsz hZs
  generalize m.length = ml at *
  go_enter Tryd.func33, Tryd.ntmps33
  go_wp2_with (first
    | (refine wpList_store_row (by rfl) 64 (.tmp 11) (.tmp 26) (by rfl) (w.heap.size + 1) K (by rfl) (by rfl) _ _ Z0.out HI.out HIz.out HO.out ?_; obtain ⟨W2, hW2⟩ : ∃ W2, W2 = ((w.alloc (.cells Z 86)).alloc (.cells zeros32 64)).setRow (w.heap.size + 1) K := ⟨_, rfl⟩; rw [← hW2]; have g2 : Hid (w.grownBy W2 none) := Lib.hid (by rw [hW2]; exact grown_setRow (grown_alloc G0.out _) (Nat.le_add_right _ _) _); have b2 : Hid (W2.heap[w.heap.size]? = some (.cells Z 86 (0, 0))) := Lib.hid (by rw [hW2, setRow_other _ _ _ _ (by omega)]; exact alloc_keep B0.out); have k2 : Hid (W2.heap[w.heap.size + 1]? = some (.cells K 64 (0, 0))) := Lib.hid (by rw [hW2]; exact setRow_heap _ _ _ _ _ _ Z0.out); clear hW2)
    | (go_at_call 29; obtain ⟨W3, hW3⟩ : ∃ W3, W3 = W2.alloc (.cells #[.slice va ml vc] 22) := ⟨_, rfl⟩; rw [← hW3]; have g3 : Hid (w.grownBy W3 none) := Lib.hid (by rw [hW3]; exact grown_alloc g2.out _); have g23 : Hid (W2.grownBy W3 none) := Lib.hid (by rw [hW3]; exact World.grownBy_alloc _ _ _); refine (HT.out W3 W2.heap.size g3.out (by rw [hW3]; exact alloc_keep k2.out) (by rw [hW3]; exact alloc_at _ _)).mono ?_; rintro e w4 ⟨rfl, hg4⟩; have g4 := Lib.hid (grown_trans g3.out hg4); have b4 := Lib.hid (((grown_trans g23.out hg4).block _ (blk_lt b2.out) (by simp)).trans b2.out); have k4 := Lib.hid (((grown_trans g23.out hg4).block _ (blk_lt k2.out) (by simp)).trans k2.out); have Z4 := Lib.hid (alloc_at w4 (.cells zeros32 64)); clear hg4 hW3)
    | (refine wpList_store_row (by rfl) 64 (.tmp 13) (.tmp 38) (by rfl) w4.heap.size D (by rfl) (by rfl) _ _ Z4.out HID.out HIzD.out HOD.out ?_; obtain ⟨W5, hW5⟩ : ∃ W5, W5 = (w4.alloc (.cells zeros32 64)).setRow w4.heap.size D := ⟨_, rfl⟩; rw [← hW5]; have g5 : Hid (w.grownBy W5 none) := Lib.hid (by rw [hW5]; exact grown_setRow (grown_alloc g4.out _) g4.out.size _); have hW5o : ∀ q, q < w4.heap.size → W5.heap[q]? = w4.heap[q]? := (fun q hq => by rw [hW5, setRow_other _ _ _ _ (by omega)]; exact alloc_old _ _ _ hq); have b5 := Lib.hid ((hW5o _ (blk_lt b4.out)).trans b4.out); have k5 := Lib.hid ((hW5o _ (blk_lt k4.out)).trans k4.out); have d5 : Hid (W5.heap[w4.heap.size]? = some (.cells D 64 (0, 0))) := Lib.hid (by rw [hW5]; exact setRow_heap _ _ _ _ _ _ Z4.out); clear hW5 hW5o))
  have hcvS : ∀ W, w.grownBy W none → W.rangeAt (w.heap.size + 1) 0 K.toList → W.rangeAt (w.heap.size + 1) 0 K.toList ∧ (convert 22 9 (.slice va ml vc)).run Tryd.prog W = .ok (.string M) W := fun W hW hr => ⟨hr, HCV.out W hW⟩
  have HcvS := Lib.hid hcvS
  have hst := run_storeRow (P := Tryd.prog) (w := W5.drew) b5.out HXz.out HXo.out
  have b6 : Hid ((W5.drew.setRow w.heap.size X).heap[w.heap.size]? = some (.cells X 86 (0, 0))) := Lib.hid (setRow_heap _ _ _ _ _ _ b5.out)
  have k6 : Hid ((W5.drew.setRow w.heap.size X).heap[w.heap.size + 1]? = some (.cells K 64 (0, 0))) := Lib.hid (by rw [setRow_other _ _ _ _ (by omega)]; exact k5.out)
  have hK32 := HKs.out
  have hZ34 := HZs.out
  have hX34 := HXs.out
  obtain ⟨Y, hYf, hYs, hYX⟩ := HY.out
  clear hcvS
  have hIl := HIl.out
  have hu32 := Tryd.underlying64
  go_region_held3 (fun w' => w'.rangeAt (w.heap.size + 1) 0 K.toList ∧ (convert 22 9 (.slice va ml vc)).run Tryd.prog w' = .ok (.string M) w')
    (first
      | exact HcvS.out _ g5.out (range_all (w := W5) k5.out)
      | exact HcvS.out _ (grown_drewN g5.out 1) (range_all (w := W5.drew) k5.out)
      | exact HcvS.out _ (grown_setRow (grown_drewN g5.out 1) (Nat.le_refl _) _) (range_all (w := W5.drew.setRow w.heap.size X) k6.out))
    (fail)
  go_wp2
  exact bodyPost_ret (v := .tuple #[.agg X, .slice (some ⟨w4.heap.size, 0, none⟩) 32 32, .nilIface]) (results_row3 Tryd.results33 _ _ w.heap.size _ _ (0, 0) _ _ _ rfl b6.out Tryd.underlying86 rfl HXi.out rfl rfl) rfl ⟨grown_setRow (grown_drewN g5.out 1) (Nat.le_refl _) _, _, rfl, g4.out.size, by rw [setRow_other _ _ _ _ (by have := (blk_lt b4.out); omega)]; exact d5.out⟩
set_option maxRecDepth 100000 in
set_option maxHeartbeats 400000 in
/-- A key that it has, and a word that is wrong. -/
theorem reckon_err (A : Nat → Addr) (w : World) (b : Nat) (mk : Option Nat) (ov : Value) (id dom : ByteArray) (va : Option Addr) (vc : Nat) (m k : List Nat) (hb : w.heap[b]? = some (.cells #[.map mk, ov] 83 (0, 0))) (hl : ∀ W, w.grownBy W none → (Instr.lookup 80 (.map mk) (.string id) true).run Tryd.prog W = .ok (.tuple #[.agg (bytesV k), .bool true]) W) (hE : AllErrs w A) (hL : Laid w)
    (hk : k.length = 32) (hk8 : ∀ x ∈ k, x < 256) (hm : Bytes w (.slice va m.length vc) m) (hm0 : Whole0 (.slice va m.length vc)) (hd : dom.size ≤ 1099511620000) (h0 : fErr (strL dom) [m] ≠ 0) :
    Calls Tryd.prog 33 #[.pointer (some ⟨b, 0, none⟩), .string id, .string dom, .slice va m.length vc] w fun e w' => e = .returned (.tuple #[.agg zEnt, .slice none 0 0, errV A (fErr (strL dom) [m])]) ∧ w.grownBy w' none := by
  obtain ⟨Z, hZ⟩ : ∃ Z, Z = zEnt := ⟨_, rfl⟩
  have hz := zEnt_at
  rw [← hZ] at hz
  have hZs : Z.size = 34 := by rw [hZ]; rfl
  have HZs := Lib.hid hZs
  have HZo : Hid (Z.all (·.oneCell') = true) := Lib.hid (by rw [hZ]; kernel_rfl)
  have HZi : Hid ((Tryd.prog.info? 86).map (·.size) = some Z.size) := Lib.hid (by rw [hZ]; kernel_rfl)
  have G0 : Hid (w.grownBy (w.alloc (.cells Z 86)) none) := Lib.hid (World.grownBy_alloc _ _ _)
  have B0 : Hid ((w.alloc (.cells Z 86)).heap[w.heap.size]? = some (.cells Z 86 (0, 0))) := Lib.hid (alloc_at _ _)
  have c0 := cell_blk (alloc_keep (o := .cells Z 86) hb) 0 rfl
  have hl0 := hl _ G0.out
  obtain ⟨K, hK⟩ : ∃ K, K = bytesV k := ⟨_, rfl⟩
  have hKs : K.size = 32 := by rw [hK, bytesV_size, hk]
  have hsz : (w.alloc (.cells Z 86)).heap.size = w.heap.size + 1 := alloc_size _ _
  have Z0 := Lib.hid (alloc_at (w.alloc (.cells Z 86)) (.cells zeros32 64))
  rw [hsz] at Z0
  have HI : Hid ((Tryd.prog.info? 64).map (·.size) = some K.size) := Lib.hid (by rw [hKs]; kernel_rfl)
  have HIz : Hid (zeros32.size = K.size) := Lib.hid (by rw [hKs]; rfl)
  have HO : Hid (K.all (·.oneCell') = true) := Lib.hid (by rw [hK]; exact bytesV_one _)
  have hz32 := zeros32_at w
  obtain ⟨N, hN⟩ : ∃ N, N = fErr (strL dom) [m] := ⟨_, rfl⟩
  have HOz : Hid (zeros32.all (·.oneCell') = true) := Lib.hid (bytesV_one _)
  have HIzz : Hid ((Tryd.prog.info? 64).map (·.size) = some zeros32.size) := Lib.hid (by kernel_rfl)
  have HT : Hid (∀ W g, w.grownBy W none → W.heap[w.heap.size + 1]? = some (.cells K 64 (0, 0)) → W.heap[g]? = some (.cells #[.slice va m.length vc] 22 (0, 0)) →
      Calls Tryd.prog 29 #[.slice (some ⟨w.heap.size + 1, 0, none⟩) 32 32, .string dom, .slice (some ⟨g, 0, none⟩) 1 1] W fun e w' => e = .returned (.tuple #[.agg zeros32, errV A N]) ∧ W.grownBy w' none) := Lib.hid (fun W g hg h1 h2 => by
    rw [hK] at h1
    have hB := row_bytes hk8 h1
    rw [hk] at hB
    have := macTag_any (A := A) _ k dom [m] (some ⟨g, 0, none⟩) g 0 1 1 rfl W hB (by omega) (fun _ => ⟨rfl, blk_lt h2⟩) (one_part h2 (hm.grown hg) hm0) hd (by omega) (hL.grown hg (by simp) (by simp)) (hE.grown hg)
    unfold tagOut at this
    rw [if_neg h0, ← hN] at this
    exact this)
  rw [← hK] at hl0
  rw [← hN, ← hZ]
  clear hb hl hE hL hK hKs hk hk8 hm hm0 hd h0 hN hZ hsz hZs
  generalize m.length = ml at *
  go_enter Tryd.func33, Tryd.ntmps33
  go_wp2_with (first
    | (refine wpList_store_row (by rfl) 64 (.tmp 11) (.tmp 26) (by rfl) (w.heap.size + 1) K (by rfl) (by rfl) _ _ Z0.out HI.out HIz.out HO.out ?_; obtain ⟨W2, hW2⟩ : ∃ W2, W2 = ((w.alloc (.cells Z 86)).alloc (.cells zeros32 64)).setRow (w.heap.size + 1) K := ⟨_, rfl⟩; rw [← hW2]; have g2 : Hid (w.grownBy W2 none) := Lib.hid (by rw [hW2]; exact grown_setRow (grown_alloc G0.out _) (Nat.le_add_right _ _) _); have b2 : Hid (W2.heap[w.heap.size]? = some (.cells Z 86 (0, 0))) := Lib.hid (by rw [hW2, setRow_other _ _ _ _ (by omega)]; exact alloc_keep B0.out); have k2 : Hid (W2.heap[w.heap.size + 1]? = some (.cells K 64 (0, 0))) := Lib.hid (by rw [hW2]; exact setRow_heap _ _ _ _ _ _ Z0.out); clear hW2)
    | (go_at_call 29; obtain ⟨W3, hW3⟩ : ∃ W3, W3 = W2.alloc (.cells #[.slice va ml vc] 22) := ⟨_, rfl⟩; rw [← hW3]; have g3 : Hid (w.grownBy W3 none) := Lib.hid (by rw [hW3]; exact grown_alloc g2.out _); have g23 : Hid (W2.grownBy W3 none) := Lib.hid (by rw [hW3]; exact World.grownBy_alloc _ _ _); refine (HT.out W3 W2.heap.size g3.out (by rw [hW3]; exact alloc_keep k2.out) (by rw [hW3]; exact alloc_at _ _)).mono ?_; rintro e w4 ⟨rfl, hg4⟩; have g4 := Lib.hid (grown_trans g3.out hg4); have b4 := Lib.hid (((grown_trans g23.out hg4).block _ (blk_lt b2.out) (by simp)).trans b2.out); have k4 := Lib.hid (((grown_trans g23.out hg4).block _ (blk_lt k2.out) (by simp)).trans k2.out); have Z4 := Lib.hid (alloc_at w4 (.cells zeros32 64)); clear hg4 hW3)
    | (refine wpList_store_row (by rfl) 64 (.tmp 13) (.tmp 38) (by rfl) w4.heap.size zeros32 (by rfl) (by rfl) _ _ Z4.out HIzz.out rfl HOz.out ?_; obtain ⟨W5, hW5⟩ : ∃ W5, W5 = (w4.alloc (.cells zeros32 64)).setRow w4.heap.size zeros32 := ⟨_, rfl⟩; rw [← hW5]; have g5 : Hid (w.grownBy W5 none) := Lib.hid (by rw [hW5]; exact grown_setRow (grown_alloc g4.out _) g4.out.size _); have hW5o : ∀ q, q < w4.heap.size → W5.heap[q]? = w4.heap[q]? := (fun q hq => by rw [hW5, setRow_other _ _ _ _ (by omega)]; exact alloc_old _ _ _ hq); have b5 := Lib.hid ((hW5o _ (blk_lt b4.out)).trans b4.out); have k5 := Lib.hid ((hW5o _ (blk_lt k4.out)).trans k4.out); have d5 : Hid (W5.heap[w4.heap.size]? = some (.cells zeros32 64 (0, 0))) := Lib.hid (by rw [hW5]; exact setRow_heap _ _ _ _ _ _ Z4.out); clear hW5 hW5o)
    | (refine wpList_store_row (by rfl) 86 (.tmp 8) (.tmp 42) (by rfl) w.heap.size Z (by rfl) (by rfl) _ _ b5.out HZi.out rfl HZo.out ?_; have b6 : Hid ((W5.setRow w.heap.size Z).heap[w.heap.size]? = some (.cells Z 86 (0, 0))) := Lib.hid (setRow_heap _ _ _ _ _ _ b5.out)))
  exact bodyPost_ret (v := .tuple #[.agg Z, .slice none 0 0, errV A N]) (results_row3 Tryd.results33 _ _ w.heap.size _ _ (0, 0) _ _ _ rfl b6.out Tryd.underlying86 rfl HZi.out rfl rfl) rfl ⟨rfl, grown_setRow g5.out (Nat.le_refl _) _⟩
end Go.Proofs.YtgdnndapmcjoeaaDoor
