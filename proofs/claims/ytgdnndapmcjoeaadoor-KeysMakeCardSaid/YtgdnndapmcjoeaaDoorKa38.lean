import Derived.Test.YtgdnndapmcjoeaaDoorKa05
import Derived.Test.YtgdnndapmcjoeaaDoorKa26
import Derived.Test.YtgdnndapmcjoeaaDoorKa37
import Derived.BigQuiet
import Derived.Deep.RegionHeld3
import Derived.DeepKeys5
import Derived.Handy
namespace Go.Proofs.YtgdnndapmcjoeaaDoor
open Go.RowKit Go.Maps
set_option linter.unusedVariables false
theorem kS : Keyed Tryd.prog 9 := string_keyed Tryd.underlying9
theorem mapKT : Tryd.prog.underlying 80 = some (.map 9 64) := Tryd.underlying80
theorem mapET : Tryd.prog.underlying 81 = some (.map 86 4) := Tryd.underlying81
theorem kE : Keyed Tryd.prog 86 := Keyed.of_law (deep_law_laid (by kernel_rfl) (m := 3) (by omega) (of_decide_eq_true (by kernel_rfl)) (by kernel_rfl) (by kernel_rfl))
theorem zK (w : World) : (zeroValue 64).run Tryd.prog w = .ok (.agg zeros32) w := by kernel_rfl
theorem zB (w : World) : (zeroValue 4).run Tryd.prog w = .ok (.bool false) w := by kernel_rfl
theorem keyS (s : ByteArray) (hs : s.size ≤ 1099511620000) : ∃ l, keyOf Tryd.prog 9 (.string s) = some l := ⟨_, Go.WideMaps.keyOf_string_mk Tryd.underlying9 (by unfold maxLen; omega)⟩
theorem eKey : Tryd.prog.keyType 86 = true := by kernel_rfl
theorem eCells : Tryd.prog.cellsOf 86 = 34 := by kernel_rfl
theorem sCells : Tryd.prog.cellsOf 9 = 1 := by kernel_rfl
theorem bCells : Tryd.prog.cellsOf 64 = 32 := by kernel_rfl
theorem uCells : Tryd.prog.cellsOf 5 = 1 := by kernel_rfl
theorem nTypes : ∃ n, Tryd.prog.types.size + 1 = n + 3 := ⟨Tryd.prog.types.size - 2, by have : 2 ≤ Tryd.prog.types.size := of_decide_eq_true (by kernel_rfl); omega⟩
theorem mapM_some {α β : Type} (f : α → Option β) : ∀ l : List α, (∀ x ∈ l, ∃ y, f x = some y) → ∃ ys, l.mapM f = some ys
  | [], _ => ⟨[], rfl⟩
  | a :: r, h => by
    obtain ⟨y, hy⟩ := h a (by simp)
    obtain ⟨ys, hys⟩ := mapM_some f r (fun x hx => h x (by simp [hx]))
    exact ⟨y :: ys, by rw [List.mapM_cons, hy, hys]; rfl⟩
theorem keyA (n : Nat) (k : List Nat) (hk : k.length = 32) (h8 : ∀ x ∈ k, x < 256) : ∃ l, Tryd.prog.keyLits (n + 2) 64 (bytesV k).toList = some l := by
  unfold Program.keyLits
  rw [Tryd.underlying64]
  have hl : (bytesV k).toList.length = 32 := by rw [Array.length_toList, bytesV_size, hk]
  simp only [bCells, hl, uCells, if_true]
  have h := mapM_some (fun i => Tryd.prog.keyLits (n + 1) 5 (((bytesV k).toList.drop (i * 1)).take 1)) (List.range 32) (fun i hi => by
    have hi : i < 32 := List.mem_range.1 hi
    have hik : i < k.length := by omega
    have h1 := bytesV_at k i hik
    have h2 : ((bytesV k).toList.drop (i * 1)).take 1 = [.int .u8 (k.getD i 0 : Nat)] := by
      rw [Nat.mul_one]
      have h3 : (bytesV k).toList[i]? = some (.int .u8 (k.getD i 0 : Nat)) := by rw [Array.getElem?_toList]; exact h1
      obtain ⟨h4, h5⟩ := List.getElem?_eq_some_iff.1 h3
      rw [List.drop_eq_getElem_cons h4, h5]
      rfl
    have h9 : k.getD i 0 < 256 := by rw [List.getD_eq_getElem?_getD, List.getElem?_eq_getElem hik]; exact h8 _ (List.getElem_mem hik)
    refine ⟨[.int .u8 (k.getD i 0 : Nat)], ?_⟩
    show Tryd.prog.keyLits (n + 1) 5 _ = _
    rw [h2]
    unfold Program.keyLits
    rw [Tryd.underlying5]
    generalize k.getD i 0 = x at *
    have : (Lit.int .u8 (x : Nat)).wf = true := by
      have a : IntKind.u8.min = 0 := rfl
      have b : IntKind.u8.max = 255 := rfl
      simp only [Lit.wf, IntKind.has, a, b, Bool.and_eq_true, decide_eq_true_eq]; omega
    simp [this])
  obtain ⟨ys, hys⟩ := h
  exact ⟨ys.flatten, by rw [hys]; rfl⟩
theorem keyE (k : List Nat) (b c : ByteArray) (hk : k.length = 32) (h8 : ∀ x ∈ k, x < 256) (hb : b.size ≤ 1099511620000) (hc : c.size ≤ 1099511620000) : ∃ l, keyOf Tryd.prog 86 (.agg (bytesV k ++ #[.string b, .string c])) = some l := by
  obtain ⟨n, hn⟩ := nTypes
  have h2 : b.size ≤ maxLen := by unfold maxLen; omega
  have h3 : c.size ≤ maxLen := by unfold maxLen; omega
  have hS : ∀ s : ByteArray, s.size ≤ maxLen → Tryd.prog.keyLits (n + 2) 9 [.string s] = some [.string s.data.toList] := fun s hs => by
    unfold Program.keyLits; rw [Tryd.underlying9]; simp [hs]
  obtain ⟨ys, hys⟩ := keyA n k hk h8
  have hl : (bytesV k).toList.length = 32 := by rw [Array.length_toList, bytesV_size, hk]
  have hl' : (bytesV k).size = 32 := by rw [bytesV_size, hk]
  unfold keyOf
  rw [hn, Tryd.underlying86]
  simp only [eKey, Value.formed, Tryd.underlying86, eCells]
  unfold Program.keyLits
  rw [Tryd.underlying86]
  have t0 : ((bytesV k).toList ++ [Value.string b, .string c]).take 32 = (bytesV k).toList := by rw [List.take_append_of_le_length (by omega), List.take_of_length_le (by omega)]
  have t1 : ((bytesV k).toList ++ [Value.string b, .string c]).drop 32 = [.string b, .string c] := by rw [← hl, List.drop_left]
  have t2 : ((bytesV k).toList ++ [Value.string b, .string c]).drop 33 = [.string c] := by rw [show 33 = 32 + 1 from rfl, ← List.drop_drop, t1]; rfl
  simp [eCells, sCells, bCells, Value.cells, hS, hys, h2, h3, hl', t0, t1, t2]
section
set_option maxRecDepth 100000
theorem gnew_any (w : World) : Calls Tryd.prog 14 #[] w fun e w' => e = .returned (.pointer (some ⟨w.heap.size, 0, none⟩)) ∧ w' = w.alloc (.cells #[.map none, .map none] 83) := by
  go_enter Tryd.func14, Tryd.ntmps14
  go_wp2
  go_ret
  exact ⟨rfl, rfl⟩
/-- What the book has, when nothing is there. -/
def zEnt : Array Value := bytesV (List.replicate 32 0) ++ #[.string ⟨#[]⟩, .string ⟨#[]⟩]
theorem zEnt_at (w : World) : (zeroValue 86).run Tryd.prog w = .ok (.agg zEnt) w := by kernel_rfl
theorem results_row3 {P : Program} {fn : Func} {p u v : Tmp} {ty : TypeId} (h : fn.results = #[.cell p ty, .tmp u, .tmp v]) (tmps : Array Value) (w : World) (g : Nat) (t : TypeId) (cs : Array Value) (fr : Nat × Nat) (d : TypeDesc) (x y : Value)
    (hp : tmps.getD p undef = .pointer (some ⟨g, 0, none⟩)) (hg : w.heap[g]? = some (.cells cs t fr)) (hu : P.underlying ty = some d) (hd : (match d with | .struct _ | .array _ _ => true | _ => false) = true) (hi : (P.info? ty).map (·.size) = some cs.size)
    (hx : tmps.getD u undef = x) (hy : tmps.getD v undef = y) : (results fn tmps).run P w = .ok (.tuple #[.agg cs, x, y]) w := by
  have e : (results fn tmps).run P w = ((asAddr (tmps.getD p undef)).run P w).andThen fun a w₁ => ((loadVar ty a).run P w₁).andThen fun z w₂ => .ok (.tuple #[z, tmps.getD u undef, tmps.getD v undef]) w₂ := by
    simp only [results, h]
    simp [Sem.run_bind, Result.andThen]
  rw [e, hp, hx, hy]
  simp [asAddr, Sem.run_pure, Result.andThen, run_loadVar_row w g t ty cs fr d hg hu hd hi]
theorem run_storeRow {P : Program} {w : World} {g : Nat} {t : TypeId} {old cells : Array Value} (hg : w.heap[g]? = some (.cells old t (0, 0))) (ho : old.size = cells.size) (h1 : cells.all (·.oneCell') = true) : (storeCells ⟨g, 0, none⟩ cells.toList).run P w = .ok () (w.setRow g cells) := by
  have := run_storeCells_from (P := P) g t cells.toList 0 old w hg (by simp; omega) (fun v hv => (Array.all_eq_true_iff_forall_mem.1 h1) v (by simpa using hv))
  simpa using this
/-- A key that it hasn't. -/
theorem reckon_none (A : Nat → Addr) (w : World) (b : Nat) (mk : Option Nat) (ov : Value) (id dom : ByteArray) (vm : Value) (hb : w.heap[b]? = some (.cells #[.map mk, ov] 83 (0, 0))) (hl : ∀ W, w.grownBy W none → (Instr.lookup 80 (.map mk) (.string id) true).run Tryd.prog W = .ok (.tuple #[.agg zeros32, .bool false]) W) (hE : AllErrs w A) :
    Calls Tryd.prog 33 #[.pointer (some ⟨b, 0, none⟩), .string id, .string dom, vm] w fun e w' => e = .returned (.tuple #[.agg zEnt, .slice none 0 0, errV A 10]) ∧ w.grownBy w' none := by
  have e10 := errs_at hE 10 (by decide)
  have HL10 := hE.lt 9 (by decide)
  simp only [errVars, List.getD_cons_zero, List.getD_cons_succ, Nat.add_one_sub_one] at e10 HL10
  obtain ⟨Z, hZ⟩ : ∃ Z, Z = zEnt := ⟨_, rfl⟩
  have hz := zEnt_at
  rw [← hZ] at hz
  have HZs : Hid ((Tryd.prog.info? 86).map (·.size) = some Z.size) := Lib.hid (by rw [hZ]; kernel_rfl)
  have hZs : Z.size = 34 := by rw [hZ]; rfl
  have HZo : Hid (Z.all (·.oneCell') = true) := Lib.hid (by rw [hZ]; kernel_rfl)
  have G0 : Hid (w.grownBy (w.alloc (.cells Z 86)) none) := Lib.hid (World.grownBy_alloc _ _ _)
  have B0 : Hid ((w.alloc (.cells Z 86)).heap[w.heap.size]? = some (.cells Z 86 (0, 0))) := Lib.hid (alloc_at _ _)
  have c0 := cell_blk (alloc_keep (o := .cells Z 86) hb) 0 rfl
  have hl0 := hl _ G0.out
  have HI : Hid ((Tryd.prog.info? 64).map (·.size) = some zeros32.size) := Lib.hid (by kernel_rfl)
  have HO : Hid (zeros32.all (·.oneCell') = true) := Lib.hid (bytesV_one _)
  have hz32 := zeros32_at w
  have hsz : (w.alloc (.cells Z 86)).heap.size = w.heap.size + 1 := alloc_size _ _
  have Z0 := Lib.hid (alloc_at (w.alloc (.cells Z 86)) (.cells zeros32 64))
  have E10 := Lib.hid (show ∀ W, w.grownBy W none → W.cell? ⟨9, 0, none⟩ = some (errV A 10) from fun W hW => by rw [World.cell?_of_block (hW.block _ HL10 (by simp))]; exact e10)
  have NE10 : Hid (∀ n, w.heap.size + n ≠ 9) := Lib.hid (fun n => by omega)
  rw [hsz] at Z0
  clear hb hE e10 HL10 hsz hl
  rw [← hZ]
  clear hZ
  go_enter Tryd.func33, Tryd.ntmps33
  go_wp2_with (refine wpList_store_row (by rfl) 64 (.tmp 11) (.tmp 26) (by rfl) (w.heap.size + 1) zeros32 (by rfl) (by rfl) _ _ Z0.out HI.out rfl HO.out ?_; obtain ⟨W2, hW2⟩ : ∃ W2, W2 = ((w.alloc (.cells Z 86)).alloc (.cells zeros32 64)).setRow (w.heap.size + 1) zeros32 := ⟨_, rfl⟩; rw [← hW2]; have g2 : Hid (w.grownBy W2 none) := Lib.hid (by rw [hW2]; exact grown_setRow (grown_alloc G0.out _) (Nat.le_add_right _ _) _); have b2 : Hid (W2.heap[w.heap.size]? = some (.cells Z 86 (0, 0))) := Lib.hid (by rw [hW2, setRow_other _ _ _ _ (by omega)]; exact alloc_keep B0.out); have e10 := E10.out W2 g2.out; clear hW2)
  have hst := run_storeRow (P := Tryd.prog) (w := W2.drew) b2.out rfl HZo.out
  have b5 : Hid ((W2.drew.setRow w.heap.size Z).heap[w.heap.size]? = some (.cells Z 86 (0, 0))) := Lib.hid (setRow_heap _ _ _ _ _ _ b2.out)
  go_region_held3 (fun w' => w'.cell? ⟨9, 0, none⟩ = some (errV A 10))
    (first
      | exact e10
      | exact E10.out _ (grown_drewN g2.out 1)
      | exact E10.out _ (grown_setRow (grown_drewN g2.out 1) (Nat.le_refl _) _))
    (fail)
  go_wp2
  refine bodyPost_ret (v := .tuple #[.agg Z, .slice none 0 0, errV A 10]) (results_row3 Tryd.results33 _ _ w.heap.size _ _ (0, 0) _ _ _ rfl b5.out Tryd.underlying86 rfl HZs.out rfl rfl) rfl ⟨rfl, grown_setRow (grown_drewN g2.out 1) (Nat.le_refl _) _⟩
end
end Go.Proofs.YtgdnndapmcjoeaaDoor
