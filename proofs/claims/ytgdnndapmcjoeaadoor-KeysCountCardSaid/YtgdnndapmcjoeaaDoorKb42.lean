import Derived.Test.YtgdnndapmcjoeaaDoorKb10
import Derived.Test.YtgdnndapmcjoeaaDoorKb41
import Derived.Deep.MidRow
namespace Go.Proofs.YtgdnndapmcjoeaaDoor
open Go.RowKit
def rawL (q : Nat) : List Nat := (q + 1) :: List.replicate 31 0
theorem ids_apart : idText (rawL 0) ≠ idText (rawL 1) ∧ idText (rawL 0) ≠ idText (rawL 2) ∧ idText (rawL 1) ≠ idText (rawL 2) := by decide +kernel
end Go.Proofs.YtgdnndapmcjoeaaDoor
namespace Go
theorem wpList_store_c {P : Program} {ops : Array Oper} {rest : List Oper} {op : Oper} {a : Act} {w : World} {Q : Exit → Act → World → Prop} (hgd : op.guard = none) (ty : TypeId) (x y : Operand) (ho : op.op = .store ty x y)
    (b o : Nat) (v : Value) (hx : a.eval x = .pointer (some ⟨b, o, none⟩)) (hy : a.eval y = v) (ht : w.there b o 1) (hi : (P.info? ty).map (·.size) = some 1) (h1 : v.oneCell' = true)
    (h : wpList P ops Q rest (a.put op.dst undef) (w.setCell ⟨b, o, none⟩ v)) : wpList P ops Q (op :: rest) a w :=
  wpList_plain hgd fun _ hK => by
    have hc : v.cells = #[v] := by cases v <;> first | rfl | cases h1
    have := run_storeCells_cells (P := P) b o [v] 0 w (fun j hj => by simpa using (ht j (by simpa using hj)).1) (fun j hj => by simpa using (ht j (by simpa using hj)).2) (fun u hu => by simp at hu; subst hu; exact h1)
    have hs : (storeVar ty ⟨b, o, none⟩ v).run P w = .ok () (w.setCell ⟨b, o, none⟩ v) := by
      cases hq : P.info? ty with
      | none => simp [hq] at hi
      | some i =>
        have hs : i.size = 1 := by simpa [hq] using hi
        simp only [Nat.add_zero] at this
        simp [storeVar, sizeOf, typeInfo, hq, hc, hs, this]
        rfl
    unfold Oper.wp execOp
    simp only [ho, hx, hy, Instr.storeAt, Instr.sureAddr, Sem.run_bind, Sem.run_pure, Result.andThen_ok, hs]
    exact hK _ _ h
end Go
namespace Go.Proofs.YtgdnndapmcjoeaaDoor
open Go.RowKit Go.Maps
set_option linter.unusedVariables false
def idK (q : Nat) : ByteArray := idText (rawL q)
def idAt (j q : Nat) : ByteArray := if q < j then idK q else ⟨#[]⟩
def idsC (j : Nat) : Array Value := #[.string (idAt j 0), .string (idAt j 1), .string (idAt j 2)]
def rawV (gs : Nat → Nat) (j q : Nat) : Value := if q < j then .slice (some ⟨gs q, 0, none⟩) 32 32 else .slice none 0 0
def rawC (gs : Nat → Nat) (j : Nat) : Array Value := #[rawV gs j 0, rawV gs j 1, rawV gs j 2]
def RR : Nat → Rg
  | 0 => Rg.none
  | j + 1 => (RR j).add (idK j) (rawL j)
theorem ids_set {j : Nat} (hj : j < 3) : (idsC j).setIfInBounds j (.string (idK j)) = idsC (j + 1) := by
  obtain rfl | rfl | rfl : j = 0 ∨ j = 1 ∨ j = 2 := by omega
  all_goals rfl
theorem raw_set {j : Nat} (gs gs' : Nat → Nat) (hj : j < 3) (hg : ∀ q, q < j → gs' q = gs q) : (rawC gs j).setIfInBounds j (.slice (some ⟨gs' j, 0, none⟩) 32 32) = rawC gs' (j + 1) := by
  obtain rfl | rfl | rfl : j = 0 ∨ j = 1 ∨ j = 2 := by omega
  · rfl
  · have h0 := hg 0 (by omega)
    unfold rawC rawV; simp [h0]
  · have h0 := hg 0 (by omega)
    have h1 := hg 1 (by omega)
    unfold rawC rawV; simp [h0, h1]
theorem raw_bytes {j : Nat} : bytesV (rawL j) = (bytesV noughts).setIfInBounds 0 (.int .u8 ((j + 1 : Nat) : Int)) := by
  unfold rawL noughts bytesV
  simp [List.replicate]
theorem rawL_len (j : Nat) : (rawL j).length = 32 := by simp [rawL]
theorem rawL_lt {j : Nat} (hj : j < 3) : ∀ x ∈ rawL j, x < 256 := fun x hx => by
  rcases List.mem_cons.1 hx with rfl | hx
  · omega
  · have := List.eq_of_mem_replicate hx; omega
section
variable {A : Nat → Addr} {W0 w w' : World} {F : Nat → Prop} {b : Nat} {s : Rg}
theorem PrG.set (h : PrG W0 F b s w) {k o : Nat} (hk : ¬ F k) (hk0 : W0.heap.size ≤ k) (v : Value) : PrG W0 F b s (w.setCell ⟨k, o, none⟩ v) := by
  obtain ⟨mk, mb, h1, h2, h3, h4, h5, h6⟩ := h.body
  have hb : ∀ i, F i → (w.setCell ⟨k, o, none⟩ v).heap[i]? = w.heap[i]? := fun i hi => Below.heap_setCell _ _ _ _ (fun e => hk (by
    have e : i = k := e
    rw [← e]; exact hi))
  exact ⟨grown_set h.base (.inl hk0) _, fun i hi => ⟨(h.own i hi).1, by rw [setCell_size]; exact (h.own i hi).2⟩, h.mem, h.good, mk, mb, (hb b h.mem).trans h1, h2.of (fun i e => hb i (h4 i e).1), h3.of (fun i e => hb i (h5 i e).1), h4, h5, h6⟩
end
/-- What lies while the keys come. -/
def C1 (w : World) (b b6 b7 : Nat) (j : Nat) (wr : World) : Prop :=
  ∃ (F : Nat → Prop) (gs : Nat → Nat), PrG w F b (RR j) wr ∧ wr.heap[b6]? = some (.cells (idsC j) 56 (0, 0)) ∧ wr.heap[b7]? = some (.cells (rawC gs j) 57 (0, 0)) ∧ b6 ≠ b7 ∧ w.heap.size ≤ b6 ∧ w.heap.size ≤ b7 ∧ ¬ F b6 ∧ ¬ F b7 ∧
    ∀ q, q < j → wr.heap[gs q]? = some (.cells (bytesV (rawL q)) 5 (0, 0)) ∧ ¬ F (gs q) ∧ gs q ≠ b6 ∧ gs q ≠ b7 ∧ w.heap.size ≤ gs q
theorem C1.start {w w1 : World} (hP : PrG w (fun k => k = w.heap.size) w.heap.size Rg.none w1) (t6 t7 : TypeId) (h6 : t6 = 56) (h7 : t7 = 57) :
    C1 w w.heap.size w1.heap.size (w1.heap.size + 1) 0 ((w1.alloc (.cells #[.string ⟨#[]⟩, .string ⟨#[]⟩, .string ⟨#[]⟩] t6)).alloc (.cells #[.slice none 0 0, .slice none 0 0, .slice none 0 0] t7)) := by
  subst h6; subst h7
  have hlt := (hP.own _ rfl).2
  refine ⟨_, fun _ => 0, (hP.still (World.grownBy_alloc _ _ _)).still (World.grownBy_alloc _ _ _), alloc2_old _ _ _, alloc2_new _ _ _, by omega, by omega, by omega, ?_, ?_, fun q hq => absurd hq (Nat.not_lt_zero _)⟩
  · intro e
    have : w1.heap.size = w.heap.size := e
    omega
  · intro e
    have : w1.heap.size + 1 = w.heap.size := e
    omega
set_option maxHeartbeats 1000000 in
theorem C1.mid {A : Nat → Addr} {w wr : World} {b b6 b7 j : Nat} (h : C1 w b b6 b7 j wr) (hj : j < 3) (hE : AllErrs w A) (hL : Laid w) (W1 W2 W3 : World) (v : Value)
    (h1 : W1 = wr.alloc (.cells (bytesV noughts) 5)) (hv : v = .slice (some ⟨wr.heap.size, 0, none⟩) 32 32) (h2 : W2 = W1.setCell ⟨b7, j, none⟩ v) (h3 : W3 = W2.setCell ⟨wr.heap.size, 0, none⟩ (.int .u8 ((j + 1 : Nat) : Int))) :
    W1.there b7 j 1 ∧ W2.cell? ⟨b7, j, none⟩ = some v ∧ W2.there wr.heap.size 0 1 ∧ W3.cell? ⟨b7, j, none⟩ = some v ∧
      Calls Tryd.prog 18 #[.pointer (some ⟨b, 0, none⟩), v] W3 fun e w4 => e = .returned (.tuple #[.string (idK j), .nilIface]) ∧ w4.there b6 j 1 ∧ C1 w b b6 b7 (j + 1) (w4.setCell ⟨b6, j, none⟩ (.string (idK j))) := by
  obtain ⟨F, gs, hP, k6, k7, hne, l6, l7, n6, n7, hq⟩ := h
  have hb6 := blk_lt k6
  have hb7 := blk_lt k7
  have hnF := hP.apart
  have P1 : PrG w F b (RR j) W1 := by rw [h1]; exact hP.still (World.grownBy_alloc _ _ _)
  have a6 : W1.heap[b6]? = some (.cells (idsC j) 56 (0, 0)) := by rw [h1]; exact alloc_keep k6
  have a7 : W1.heap[b7]? = some (.cells (rawC gs j) 57 (0, 0)) := by rw [h1]; exact alloc_keep k7
  have an : W1.heap[wr.heap.size]? = some (.cells (bytesV noughts) 5 (0, 0)) := by rw [h1]; exact alloc_at _ _
  have aq : ∀ q, q < j → W1.heap[gs q]? = some (.cells (bytesV (rawL q)) 5 (0, 0)) := fun q hqj => by rw [h1]; exact alloc_keep (hq q hqj).1
  have hws := hP.base.size
  have P2 : PrG w F b (RR j) W2 := by rw [h2]; exact P1.set n7 l7 _
  have P3 : PrG w F b (RR j) W3 := by rw [h3]; exact P2.set hnF hws _
  obtain ⟨gs', hgs'⟩ : ∃ gs' : Nat → Nat, gs' = fun q => if q < j then gs q else wr.heap.size := ⟨_, rfl⟩
  have g1 : ∀ q, q < j → gs' q = gs q := fun q hqj => by rw [hgs']; exact if_pos hqj
  have g2 : gs' j = wr.heap.size := by rw [hgs']; exact if_neg (Nat.lt_irrefl _)
  have c7 : W2.heap[b7]? = some (.cells (rawC gs' (j + 1)) 57 (0, 0)) := by
    rw [h2, setCell_heap a7, hv, ← g2, raw_set gs gs' hj g1]
  have hc7 : (rawC gs' (j + 1))[j]? = some v := by
    rw [← raw_set gs gs' hj g1, g2, ← hv, Array.getElem?_setIfInBounds]
    simp [show j < (rawC gs j).size from hj]
  have o2 : ∀ k, k ≠ b7 → W2.heap[k]? = W1.heap[k]? := fun k hk => by rw [h2]; exact Below.heap_setCell _ _ _ _ hk
  have o3 : ∀ k, k ≠ wr.heap.size → W3.heap[k]? = W2.heap[k]? := fun k hk => by rw [h3]; exact Below.heap_setCell _ _ _ _ hk
  have cn : W2.heap[wr.heap.size]? = some (.cells (bytesV noughts) 5 (0, 0)) := (o2 _ (by omega)).trans an
  have dn : W3.heap[wr.heap.size]? = some (.cells (bytesV (rawL j)) 5 (0, 0)) := by rw [h3, setCell_heap cn, raw_bytes]
  have d7 : W3.heap[b7]? = some (.cells (rawC gs' (j + 1)) 57 (0, 0)) := (o3 _ (by omega)).trans c7
  have d6 : W3.heap[b6]? = some (.cells (idsC j) 56 (0, 0)) := (o3 _ (by omega)).trans ((o2 _ hne).trans a6)
  have dq : ∀ q, q < j → W3.heap[gs q]? = some (.cells (bytesV (rawL q)) 5 (0, 0)) := fun q hqj => by
    have := blk_lt (hq q hqj).1
    exact (o3 _ (by omega)).trans ((o2 _ (hq q hqj).2.2.2.1).trans (aq q hqj))
  refine ⟨there_blk a7 j 1 (by show j + 1 ≤ 3; omega), cell_blk c7 j hc7, there_blk cn 0 1 (by rw [bytesV_size]; decide), cell_blk d7 j hc7, ?_⟩
  subst hv
  refine (pgAdd P3 hE hL (some ⟨wr.heap.size, 0, none⟩) 32 (rawL j) (rawL_len j) (fun W hW => ?_)).mono ?_
  · have := (hW.block wr.heap.size (blk_lt dn) hnF).trans dn
    have := blk_bytes (rawL_lt hj) this
    rw [rawL_len] at this
    exact this
  · rintro e w4 ⟨rfl, F', ht, hP'⟩
    have hnot : ∀ {k}, k < W3.heap.size → ¬ F k → ¬ F' k := fun hk hn hf => hn (ht.mine _ hk hf)
    have e6 := (ht.upto.block b6 (blk_lt d6) n6).trans d6
    have e7 := (ht.upto.block b7 (blk_lt d7) n7).trans d7
    have en := (ht.upto.block _ (blk_lt dn) hnF).trans dn
    refine ⟨rfl, there_blk e6 j 1 (by show j + 1 ≤ 3; omega), F', gs', hP'.set (hnot (blk_lt d6) n6) l6 _, ?_, ?_, hne, l6, l7, hnot (blk_lt d6) n6, hnot (blk_lt d7) n7, fun q hqj => ?_⟩
    · rw [setCell_heap e6, ids_set hj]
    · rw [Below.heap_setCell _ _ _ _ (Ne.symm hne)]; exact e7
    · by_cases hqe : q = j
      · subst hqe
        rw [g2]
        refine ⟨?_, hnot (blk_lt dn) hnF, by omega, by omega, hws⟩
        rw [Below.heap_setCell _ _ _ _ (show wr.heap.size ≠ b6 by omega)]; exact en
      · have hq' : q < j := by omega
        obtain ⟨r1, r2, r3, r4, r5⟩ := hq q hq'
        rw [g1 q hq']
        refine ⟨?_, hnot (blk_lt (dq q hq')) r2, r3, r4, r5⟩
        rw [Below.heap_setCell _ _ _ _ r3]
        exact (ht.upto.block _ (blk_lt (dq q hq')) r2).trans (dq q hq')
end Go.Proofs.YtgdnndapmcjoeaaDoor
namespace Go.Proofs.YtgdnndapmcjoeaaDoor
open Go.RowKit Go.Maps
set_option linter.unusedVariables false
section
variable {P : Program} {a : Act} {o : Oper} {w : World}
theorem kfield_val {t : TypeId} {x : Operand} {k : Nat} {p v : Value} (ho : o.op = .fieldAddr t x k) (hx : a.eval x = p) (h : (Instr.fieldAt t p k).run P w = .ok v w) : (execOp a.eval o).run P w = .ok (.value v) w := by
  simp [execOp, ho, hx, h, Result.andThen]
theorem kload_val {t : TypeId} {x : Operand} {p v : Value} (ho : o.op = .load t x) (hx : a.eval x = p) (h : (Instr.loadAt t p).run P w = .ok v w) : (execOp a.eval o).run P w = .ok (.value v) w := by
  simp [execOp, ho, hx, h, Result.andThen]
theorem kalloc_val {t : TypeId} {v : Value} {w' : World} (ho : o.op = .alloc t) (h : (Instr.alloc t true (.tuple #[])).run P w = .ok v w') : (execOp a.eval o).run P w = .ok (.value v) w' := by
  simp [execOp, ho, h, Result.andThen]
theorem kidx_val {t : TypeId} {x y : Operand} {u v p : Value} (ho : o.op = .indexAddr t x y) (hx : a.eval x = u) (hy : a.eval y = v) (h : (Instr.indexAt t u v).run P w = .ok p w) : (execOp a.eval o).run P w = .ok (.value p) w := by
  simp [execOp, ho, hx, hy, h, Result.andThen]
end
section
variable {a : Act} {us : Nat → Value} {D : List Nat} {d : Nat}
theorem kfill_nil : fill a [] us = a := by
  obtain ⟨⟨l⟩, e⟩ := a
  unfold fill
  congr 1
  congr 1
  refine List.ext_getElem (by simp) fun i h1 h2 => ?_
  simp
theorem kfill_cons : fill a (d :: D) us = (fill a D us).put (some d) (us d) := by
  obtain ⟨⟨l⟩, e⟩ := a
  show (⟨_, e⟩ : Act) = ⟨((l.mapIdx fun k x => if D.contains k then us k else x).toArray).setIfInBounds d (us d), e⟩
  congr 1
  rw [List.setIfInBounds_toArray]
  congr 1
  refine List.ext_getElem (by simp only [List.length_set, List.length_mapIdx]) fun i h1 h2 => ?_
  simp only [List.getElem_set, List.getElem_mapIdx, List.contains_cons]
  by_cases hi : d = i
  · subst hi; simp
  · rw [if_neg hi]
    have : (i == d) = false := by simp; exact fun h => hi h.symm
    rw [this, Bool.false_or]
end
def kRegions : Code → List Code
  | .seq a b => kRegions a ++ kRegions b
  | .cond _ a b => kRegions a ++ kRegions b
  | .block _ c => kRegions c
  | .loop c => kRegions c
  | .scope c => kRegions c
  | .region i o d => [.region i o d]
  | _ => []
def kRegion (c : Option Code) (k : Nat) : Code := (((c.map kRegions).getD []).find? fun r => match r with | .region i _ _ => i == k | _ => false).getD .skip
noncomputable def kcRegion33 : Code := kRegion Tryd.f5.body 33
theorem kIdx (b7 k : Nat) (hk : k < 3) (w : World) : (Instr.indexAt 57 (.pointer (some ⟨b7, 0, none⟩)) (.int .i64 (k : Int))).run Tryd.prog w = .ok (.pointer (some ⟨b7, k, none⟩)) w := by
  have h1 : (0 : Int) ≤ (k : Int) := by omega
  have h2 : (k : Int) < 3 := by omega
  simp [go_sem, h1, h2]
theorem kField (b3 i : Nat) (hi : i = 1 ∨ i = 2) (w : World) : (Instr.fieldAt 55 (.pointer (some ⟨b3, 0, none⟩)) i).run Tryd.prog w = .ok (.pointer (some ⟨b3, i, none⟩)) w := by
  rcases hi with rfl | rfl <;> simp [go_sem]
theorem kLoadS {g o : Nat} {w : World} {s : ByteArray} (h : w.cell? ⟨g, o, none⟩ = some (.string s)) : (Instr.loadAt 9 (.pointer (some ⟨g, o, none⟩))).run Tryd.prog w = .ok (.string s) w := by simp [go_sem, h]
theorem kLoadB {g o : Nat} {w : World} {a : Option Addr} {n c : Nat} (h : w.cell? ⟨g, o, none⟩ = some (.slice a n c)) : (Instr.loadAt 22 (.pointer (some ⟨g, o, none⟩))).run Tryd.prog w = .ok (.slice a n c) w := by simp [go_sem, h]
theorem kBuild (a : Option Addr) (n c : Nat) (w : World) : (Instr.buildSlice 45 1 #[(0, .slice a n c)]).run Tryd.prog w = .ok (.slice (some ⟨w.heap.size, 0, none⟩) 1 1) (w.alloc (.cells #[.slice a n c] 22)) := by simp [go_sem]
theorem kAlloc (w : World) : (Instr.alloc 64 true (.tuple #[])).run Tryd.prog w = .ok (.pointer (some ⟨w.heap.size, 0, none⟩)) (w.alloc (.cells zeros32 64)) := by
  have hz := zeros32_at w
  simp [go_sem, hz]
def r33F (W : World) (k b3 b7 : Nat) (rv dv mv : Value) (D : Array Value) (j : Nat) (x : Value) (w : World) : Prop :=
  if j = 7 then ∃ g, x = .slice (some ⟨g, 0, none⟩) 1 1 ∧ W.heap.size ≤ g ∧ w.heap[g]? = some (.cells #[mv] 22 (0, 0)) else if j = 8 then x = .agg D
  else if j = 9 then ∃ g, x = .pointer (some ⟨g, 0, none⟩) ∧ W.heap.size ≤ g ∧ w.heap[g]? = some (.cells zeros32 64 (0, 0))
  else x = [Value.int .i64 (k : Int), .pointer (some ⟨b7, k, none⟩), rv, .pointer (some ⟨b3, 1, none⟩), dv, .pointer (some ⟨b3, 2, none⟩), mv].getD j undef
theorem r33F_stays {W : World} {k b3 b7 : Nat} {rv dv mv : Value} {D : Array Value} {j : Nat} {x : Value} {w w' : World} (hg : w.grownBy w' none) (h : r33F W k b3 b7 rv dv mv D j x w) : r33F W k b3 b7 rv dv mv D j x w' := by
  unfold r33F at h ⊢
  by_cases h7 : j = 7
  · rw [if_pos h7] at h ⊢
    obtain ⟨g, h1, h2, h3⟩ := h
    exact ⟨g, h1, h2, (hg.block _ (blk_lt h3) (by simp)).trans h3⟩
  · rw [if_neg h7] at h ⊢
    by_cases h8 : j = 8
    · rw [if_pos h8] at h ⊢; exact h
    · rw [if_neg h8] at h ⊢
      by_cases h9 : j = 9
      · rw [if_pos h9] at h ⊢
        obtain ⟨g, h1, h2, h3⟩ := h
        exact ⟨g, h1, h2, (hg.block _ (blk_lt h3) (by simp)).trans h3⟩
      · rw [if_neg h9] at h ⊢; exact h
set_option maxRecDepth 100000 in
set_option maxHeartbeats 1000000 in
theorem kc_region33 (a : Act) (k b3 b7 : Nat) (hk : k < 3) (ra va : Option Addr) (n vc : Nat) (dom : ByteArray) (D : Array Value) (W w : World) (Q : Exit → Act → World → Prop) (hsz : a.tmps.size = 181)
    (h11 : a.eval (.tmp 11) = .int .i64 (k : Int)) (h7 : a.eval (.tmp 7) = .pointer (some ⟨b7, 0, none⟩)) (h3 : a.eval (.tmp 3) = .pointer (some ⟨b3, 0, none⟩))
    (c7 : ∀ w, W.grownBy w none → w.cell? ⟨b7, k, none⟩ = some (.slice ra 32 32)) (c1 : ∀ w, W.grownBy w none → w.cell? ⟨b3, 1, none⟩ = some (.string dom)) (c2 : ∀ w, W.grownBy w none → w.cell? ⟨b3, 2, none⟩ = some (.slice va n vc))
    (hT : ∀ w g, W.grownBy w none → w.heap[g]? = some (.cells #[.slice va n vc] 22 (0, 0)) → Calls Tryd.prog 22 #[.slice ra 32 32, .string dom, .slice (some ⟨g, 0, none⟩) 1 1] w fun e w' => e = .returned (.agg D) ∧ w.grownBy w' none)
    (hD : (Tryd.prog.info? 64).map (·.size) = some D.size) (hDz : zeros32.size = D.size) (hD1 : D.all (·.oneCell') = true)
    (hw : W.grownBy { w with drawn := w.drawn + 1 } none)
    (hQ : ∀ us w' g, us 20 = .pointer (some ⟨g, 0, none⟩) → W.grownBy w' none → W.heap.size ≤ g → w'.heap[g]? = some (.cells D 64 (0, 0)) → Q .normal (fill a [155, 156, 157, 158, 159, 160, 161, 162, 163, 20] us) w') : kcRegion33.wp Tryd.prog Q a w := by
  have hcf : ∀ args w, (callFunc 22 args).run Tryd.prog w = .ok (.enter 22 args) w := fun _ _ => by simp [go_sem]
  conv => arg 2; whnf
  refine wp_region_flow 10 [155, 156, 157, 158, 159, 160, 161, 162, 163, 20] (fun w' => W.grownBy w' none) (fun w w' => w.grownBy w' none) (r33F W k b3 b7 (.slice ra 32 32) (.string dom) (.slice va n vc) D) (by kernel_rfl) (by kernel_rfl) (fun _ _ h k => grown_trans k h) (fun _ _ _ _ h k => r33F_stays h k) hw ?_ ?_
  · refine ⟨?_, ?_, ?_, ?_, ?_, ?_, ?_, ?_, ?_, ?_, trivial⟩
    · exact flow_step (fun us w hC hd => wants_free rfl) (fun us w hC hd => ⟨_, w, move_val rfl ((fill_old (by rfl)).trans h11), grown_refl _ _, rfl⟩)
    · exact flow_step (fun us w hC hd => wants_free rfl) (fun us w hC hd => ⟨_, w, kidx_val rfl ((fill_old (by rfl)).trans h7) ((fill_tmp (by rfl) (by rw [hsz]; decide)).trans (hd 0 (by decide))) (kIdx b7 k hk w), grown_refl _ _, rfl⟩)
    · exact flow_step (fun us w hC hd => wants_free rfl) (fun us w hC hd => ⟨_, w, kload_val rfl ((fill_tmp (by rfl) (by rw [hsz]; decide)).trans (hd 1 (by decide))) (kLoadB (c7 w hC)), grown_refl _ _, rfl⟩)
    · exact flow_step (fun us w hC hd => wants_free rfl) (fun us w hC hd => ⟨_, w, kfield_val rfl ((fill_old (by rfl)).trans h3) (kField b3 1 (.inl rfl) w), grown_refl _ _, rfl⟩)
    · exact flow_step (fun us w hC hd => wants_free rfl) (fun us w hC hd => ⟨_, w, kload_val rfl ((fill_tmp (by rfl) (by rw [hsz]; decide)).trans (hd 3 (by decide))) (kLoadS (c1 w hC)), grown_refl _ _, rfl⟩)
    · exact flow_step (fun us w hC hd => wants_free rfl) (fun us w hC hd => ⟨_, w, kfield_val rfl ((fill_old (by rfl)).trans h3) (kField b3 2 (.inr rfl) w), grown_refl _ _, rfl⟩)
    · exact flow_step (fun us w hC hd => wants_free rfl) (fun us w hC hd => ⟨_, w, kload_val rfl ((fill_tmp (by rfl) (by rw [hsz]; decide)).trans (hd 5 (by decide))) (kLoadB (c2 w hC)), grown_refl _ _, rfl⟩)
    · exact flow_step (fun us w hC hd => wants_free rfl) (fun us w hC hd => ⟨_, _, build1_val rfl ((fill_tmp (by rfl) (by rw [hsz]; decide)).trans (hd 6 (by decide))) (kBuild _ _ _ w), World.grownBy_alloc _ _ _, w.heap.size, rfl, hC.size, alloc_at _ _⟩)
    · refine flow_call 22 (fun us => #[us 157, us 159, us 162]) (fun us w hC hd => wants_free rfl) (fun us w => by rw [call_enter rfl hcf, List.map_toArray, List.map_cons, List.map_cons, List.map_cons, List.map_nil, fill_tmp (by rfl) (by rw [hsz]; decide), fill_tmp (by rfl) (by rw [hsz]; decide), fill_tmp (by rfl) (by rw [hsz]; decide)]) (fun us w hC' hd => ?_)
      obtain ⟨g, e1, _, e2⟩ : ∃ g, us 162 = .slice (some ⟨g, 0, none⟩) 1 1 ∧ W.heap.size ≤ g ∧ w.heap[g]? = some (.cells #[.slice va n vc] 22 (0, 0)) := hd 7 (by decide)
      rw [show us 157 = .slice ra 32 32 from hd 2 (by decide), show us 159 = .string dom from hd 4 (by decide), e1]
      refine (hT w g hC' e2).mono ?_
      rintro e w' ⟨rfl, hg⟩
      exact ⟨_, rfl, hg, rfl⟩
    · exact flow_step (fun us w hC hd => wants_free rfl) (fun us w hC hd => ⟨_, _, kalloc_val rfl (kAlloc w), World.grownBy_alloc _ _ _, w.heap.size, rfl, hC.size, alloc_at _ _⟩)
  · intro us w' hC' hF
    have e8 : us 163 = .agg D := hF 8 (by decide)
    obtain ⟨g, e9, p1, p2⟩ : ∃ g, us 20 = .pointer (some ⟨g, 0, none⟩) ∧ W.heap.size ≤ g ∧ w'.heap[g]? = some (.cells zeros32 64 (0, 0)) := hF 9 (by decide)
    refine wpList_store_row (by rfl) 64 (.tmp 20) (.tmp 163) (by rfl) g D ((fill_tmp (by rfl) (by rw [hsz]; decide)).trans e9) ((fill_tmp (by rfl) (by rw [hsz]; decide)).trans e8) _ _ p2 hD hDz hD1 ?_
    exact hQ us _ g e9 (grown_setRow hC' p1 _) p1 (setRow_heap _ _ _ _ _ _ p2)
end Go.Proofs.YtgdnndapmcjoeaaDoor
