import Derived.Test.YtgdnndapmcjoeaaDoorKe32
import Derived.Deep.OwnRows
import Derived.Deep.MidRow
namespace Go.Proofs.YtgdnndapmcjoeaaDoor
open Go.RowKit Go.Maps
set_option linter.unusedVariables false
theorem uInfo : (Tryd.prog.info? 5).map (fun i => (i.zero, i.size, i.bytes)) = some (some (.int .u8 0), 1, 1) := by kernel_rfl
def noughts : List Nat := List.replicate 32 0
theorem made32 (w : World) : (Instr.makeSlice 22 (.int .i64 32) (.int .i64 32)).run Tryd.prog w = .ok (.slice (some ⟨w.heap.size, 0, none⟩) 32 32) (w.alloc (.cells (bytesV noughts) 5)) := by
  have h := run_make_row' (P := Tryd.prog) 22 5 (.int .u8 0) 1 Tryd.underlying22 uInfo rfl .i64 .i64 32 (by decide) (by decide) w
  have e : madeCells #[Value.int .u8 0] 32 = bytesV noughts := by kernel_rfl
  rw [e] at h
  exact h
theorem blk_bytes {w : World} {g : Nat} {l : List Nat} {t : TypeId} {fr : Nat × Nat} (h8 : ∀ x ∈ l, x < 256) (h : w.heap[g]? = some (.cells (bytesV l) t fr)) : Bytes w (.slice (some ⟨g, 0, none⟩) l.length l.length) l :=
  ⟨h8, some ⟨g, 0, none⟩, g, 0, l.length, rfl, Nat.le_refl _, fun _ => ⟨rfl, blk_lt h⟩, fun j hj => by rw [Nat.zero_add]; exact cell_blk h j (bytesV_at l j hj)⟩
theorem noughts_lt : ∀ x ∈ noughts, x < 256 := by decide
def aS : ByteArray := ⟨#[97]⟩
def bS : ByteArray := ⟨#[98]⟩
def s1 : Rg := Rg.none.add (idText noughts) noughts
def s2 : Rg := s1.sign (idText noughts, aS, strOf [109])
theorem s1_get : s1.get (idText noughts) = some noughts := Rg.get_add_same rfl
theorem aE : recE s1 (idText noughts) aS [109] = 0 := by unfold recE; rw [s1_get, if_neg (by simp)]; decide
theorem s2_get (id : ByteArray) : s2.get id = s1.get id := rfl
theorem aV : verE s2 (idText noughts) aS [109] (recS s1 (idText noughts) aS [109]) = 0 := by
  have h1 : recE s2 (idText noughts) aS [109] = 0 := aE
  have h2 : recS s2 (idText noughts) aS [109] = recS s1 (idText noughts) aS [109] := rfl
  have h3 : (idText noughts, aS, strOf [109]) ∈ s2.bk := by
    show _ ∈ Rg.signB [] _
    unfold Rg.signB
    rw [if_neg (by simp)]; simp
  unfold verE
  rw [if_neg (fun h => h h1), if_pos ⟨h2, h3⟩]
theorem bV (sg : List Nat) : verE s2 (idText noughts) bS [109] sg = 12 := by
  have h1 : recE s2 (idText noughts) bS [109] = 0 := by unfold recE; rw [s2_get, s1_get, if_neg (by simp)]; decide
  have h3 : ¬ (idText noughts, bS, strOf [109]) ∈ s2.bk := by
    show ¬ _ ∈ Rg.signB [] _
    unfold Rg.signB
    rw [if_neg (by simp)]
    intro h
    simp only [List.nil_append, List.mem_singleton, Prod.mk.injEq] at h
    exact absurd h.2.1 (by decide)
  unfold verE
  rw [if_neg (fun h => h h1), if_neg (fun h => h3 h.2)]
section
variable {A : Nat → Addr} {W0 w : World} {F : Nat → Prop} {b : Nat}
theorem grown_of_alloc {a c : World} {o : Obj} (h : (a.alloc o).grownBy c none) : a.grownBy c none := grown_trans (World.grownBy_alloc _ _ _) h
/-- A block that is not the ring's. -/
theorem PrG.apart {s : Rg} (h : PrG W0 F b s w) : ¬ F w.heap.size := fun hf => by have := (h.own _ hf).2; omega
theorem alAdd (h : PrG W0 F b Rg.none w) (hE : AllErrs W0 A) (hL : Laid W0) :
    Calls Tryd.prog 18 #[.pointer (some ⟨b, 0, none⟩), .slice (some ⟨w.heap.size, 0, none⟩) 32 32] (w.alloc (.cells (bytesV noughts) 5)) fun e w' => e = .returned (.tuple #[.string (idText noughts), .nilIface]) ∧ ∃ F', PrG W0 F' b s1 w' := by
  have hn := h.apart
  have h2 := h.still (w' := w.alloc (.cells (bytesV noughts) 5)) (World.grownBy_alloc _ _ _)
  refine (pgAdd h2 hE hL (some ⟨w.heap.size, 0, none⟩) 32 noughts rfl (fun W hW => ?_)).mono (fun e w' hp => ⟨hp.1, by obtain ⟨F', h1, h2⟩ := hp.2; exact ⟨F', h2⟩⟩)
  have := (hW.block w.heap.size (by rw [alloc_size]; omega) hn).trans (alloc_at w _)
  exact blk_bytes noughts_lt this
theorem alSign (h : PrG W0 F b s1 w) (hE : AllErrs W0 A) (hL : Laid W0) :
    Calls Tryd.prog 19 #[.pointer (some ⟨b, 0, none⟩), .string (idText noughts), .string aS, .slice (some ⟨w.heap.size, 0, none⟩) 1 1] (w.alloc (.cells #[.int .u8 109] 5 (1, 2))) fun e w' => ∃ g F', e = .returned (.tuple #[.slice (some ⟨g, 0, none⟩) 32 32, .nilIface]) ∧ w'.heap[g]? = some (.cells (bytesV (recS s1 (idText noughts) aS [109])) 64 (0, 0)) ∧ PrG W0 F' b s2 w' := by
  have hn := h.apart
  have h2 := h.still (w' := w.alloc (.cells #[.int .u8 109] 5 (1, 2))) (World.grownBy_alloc _ _ _)
  refine (pgSign h2 hE hL (idText noughts) aS (by rw [id_size]; decide) (by decide) (some ⟨w.heap.size, 0, none⟩) 1 [109] (by decide) (fun W hW => ?_) (Whole0.some _ _ _)).mono ?_
  · have := (hW.block w.heap.size (by rw [alloc_size]; omega) hn).trans (alloc_at w _)
    exact blk_bytes (l := [109]) (by decide) this
  · rintro e w' (⟨he, _⟩ | ⟨_, g, F', rfl, hg, hgd, _, _, hp⟩)
    · exact absurd aE he
    · exact ⟨g, F', rfl, hgd, hp⟩
theorem alVer (h : PrG W0 F b s2 w) (hE : AllErrs W0 A) (hL : Laid W0) (dom : ByteArray) (hd : dom.size ≤ 1000) (g : Nat) (sg : List Nat) (hs : sg.length = 32) (hs8 : ∀ x ∈ sg, x < 256) (hg : w.heap[g]? = some (.cells (bytesV sg) 64 (0, 0))) :
    Calls Tryd.prog 21 #[.pointer (some ⟨b, 0, none⟩), .string (idText noughts), .string dom, .slice (some ⟨w.heap.size, 0, none⟩) 1 1, .slice (some ⟨g, 0, none⟩) 32 32] (w.alloc (.cells #[.int .u8 109] 5 (1, 2))) fun e w' => e = .returned (errOf A (verE s2 (idText noughts) dom [109] sg)) ∧ (w.alloc (.cells #[.int .u8 109] 5 (1, 2))).grownBy w' none := by
  have h2 := h.still (w' := w.alloc (.cells #[.int .u8 109] 5 (1, 2))) (World.grownBy_alloc _ _ _)
  have hb := blk_bytes (l := [109]) (by decide) (alloc_at w (.cells #[.int .u8 109] 5 (1, 2)))
  have hb2 := row_bytes hs8 (alloc_keep (o := .cells #[.int .u8 109] 5 (1, 2)) hg)
  have := pgVerify h2 hE hL (idText noughts) dom (by rw [id_size]; decide) hd (some ⟨w.heap.size, 0, none⟩) 1 [109] (by decide) hb (Whole0.some _ _ _) (some ⟨g, 0, none⟩) sg.length sg (by omega) hb2
  rw [hs] at this
  exact this
end
set_option maxRecDepth 100000 in
set_option maxHeartbeats 1000000 in
theorem alive10_any (A : Nat → Addr) (w : World) (hE : AllErrs w A) (hL : Laid w) :
    Calls Tryd.prog 7 #[] w fun e w' => e = .returned (.bool true) ∧ w.grownBy w' none := by
  obtain ⟨ID, hID⟩ : ∃ ID, ID = idText noughts := ⟨_, rfl⟩
  obtain ⟨SG, hSG⟩ : ∃ SG, SG = recS s1 (idText noughts) aS [109] := ⟨_, rfl⟩
  have hmk := made32
  have HA : Hid (∀ F w1, PrG w F w.heap.size Rg.none w1 → Calls Tryd.prog 18 #[.pointer (some ⟨w.heap.size, 0, none⟩), .slice (some ⟨w1.heap.size, 0, none⟩) 32 32] (w1.alloc (.cells (bytesV noughts) 5)) fun e w' => e = .returned (.tuple #[.string ID, .nilIface]) ∧ ∃ F', PrG w F' w.heap.size s1 w') := Lib.hid (fun F w1 h => by rw [hID]; exact alAdd h hE hL)
  have HS : Hid (∀ F w2, PrG w F w.heap.size s1 w2 → Calls Tryd.prog 19 #[.pointer (some ⟨w.heap.size, 0, none⟩), .string ID, .string ⟨#[97]⟩, .slice (some ⟨w2.heap.size, 0, none⟩) 1 1] (w2.alloc (.cells #[.int .u8 109] 5 (1, 2))) fun e w' => ∃ g F', e = .returned (.tuple #[.slice (some ⟨g, 0, none⟩) 32 32, .nilIface]) ∧ w'.heap[g]? = some (.cells (bytesV SG) 64 (0, 0)) ∧ PrG w F' w.heap.size s2 w') := Lib.hid (fun F w2 h => by rw [hID, hSG]; exact alSign h hE hL)
  have hs32 : SG.length = 32 := by rw [hSG]; exact recS_len _ _ _ _
  have hs8 : ∀ x ∈ SG, x < 256 := by rw [hSG]; exact recS_lt _ _ _ _
  have HVa : Hid (∀ F w3 g, PrG w F w.heap.size s2 w3 → w3.heap[g]? = some (.cells (bytesV SG) 64 (0, 0)) → Calls Tryd.prog 21 #[.pointer (some ⟨w.heap.size, 0, none⟩), .string ID, .string ⟨#[97]⟩, .slice (some ⟨w3.heap.size, 0, none⟩) 1 1, .slice (some ⟨g, 0, none⟩) 32 32] (w3.alloc (.cells #[.int .u8 109] 5 (1, 2))) fun e w' => e = .returned .nilIface ∧ (w3.alloc (.cells #[.int .u8 109] 5 (1, 2))).grownBy w' none) := Lib.hid (fun F w3 g h hg => by
    have := alVer h hE hL aS (by decide) g SG hs32 hs8 hg
    rw [hSG, aV, ← hID, errOf, if_pos rfl] at this
    exact this)
  have HVb : Hid (∀ F w3 g, PrG w F w.heap.size s2 w3 → w3.heap[g]? = some (.cells (bytesV SG) 64 (0, 0)) → Calls Tryd.prog 21 #[.pointer (some ⟨w.heap.size, 0, none⟩), .string ID, .string ⟨#[98]⟩, .slice (some ⟨w3.heap.size, 0, none⟩) 1 1, .slice (some ⟨g, 0, none⟩) 32 32] (w3.alloc (.cells #[.int .u8 109] 5 (1, 2))) fun e w' => e = .returned (errV A 12) ∧ (w3.alloc (.cells #[.int .u8 109] 5 (1, 2))).grownBy w' none) := Lib.hid (fun F w3 g h hg => by
    have := alVer h hE hL bS (by decide) g SG hs32 hs8 hg
    rw [bV, ← hID, errOf, if_neg (by decide)] at this
    exact this)
  have HN : Hid (∀ W, w.grownBy W none → Calls Tryd.prog 11 #[errV A 12] W fun e w' => e = .returned (.int .i64 12) ∧ W.grownBy w' none) := Lib.hid (fun W hW => by
    have := num_of A 12 (by decide) W (hE.grown hW)
    rw [errOf, if_neg (by decide)] at this
    exact this)
  have HNew := Lib.hid (gnew_any w)
  have HP0 : Hid (PrG w (fun k => k = w.heap.size) w.heap.size Rg.none (w.alloc (.cells #[.map none, .map none] 83))) := Lib.hid (PrG.new (grown_refl _ _))
  generalize bytesV SG = ROW at *
  clear hID hSG hs32 hs8 hE hL
  go_enter Tryd.func7, Tryd.ntmps7
  go_wp2_with (first
    | (go_at_call 14; refine HNew.out.mono ?_; rintro e w1 ⟨rfl, hw1⟩; have P1 : Hid (PrG w (fun k => k = w.heap.size) w.heap.size Rg.none w1) := Lib.hid (by rw [hw1]; exact HP0.out); clear hw1)
    | (go_at_call 18; refine (HA.out _ w1 P1.out).mono ?_; rintro e w2 ⟨rfl, F2, hp2⟩; have P2 := Lib.hid hp2; clear hp2; have hc2 := conv25 1 w2 #[.int .u8 109] rfl)
    | (go_at_call 19; refine (HS.out _ w2 P2.out).mono ?_; rintro e w3 ⟨g, F3, rfl, hgd, hp3⟩; have P3 := Lib.hid hp3; have GD := Lib.hid hgd; clear hp3 hgd; have hc3 := conv25 1 w3 #[.int .u8 109] rfl)
    | (go_at_call 21; (with_reducible refine (HVa.out _ w3 g P3.out GD.out).mono ?_); rintro e w4 ⟨rfl, hg4⟩; have G4 := Lib.hid (grown_of_alloc hg4); have P4 := Lib.hid (P3.out.still G4.out); have GD4 := Lib.hid ((G4.out.block g (blk_lt GD.out) (by simp)).trans GD.out); clear hg4; have hc4 := conv25 1 w4 #[.int .u8 109] rfl)
    | (go_at_call 21; (with_reducible refine (HVb.out _ w4 g P4.out GD4.out).mono ?_); rintro e w5 ⟨rfl, hg5⟩; have P5 := Lib.hid (P4.out.still (grown_of_alloc hg5)); clear hg5)
    | (go_at_call 11; refine (HN.out w5 P5.out.base).mono ?_; rintro e w6 ⟨rfl, hg6⟩; have G6 := Lib.hid (grown_trans P5.out.base hg6); clear hg6))
  go_ret
  exact ⟨rfl, G6.out⟩
end Go.Proofs.YtgdnndapmcjoeaaDoor
namespace Go.Proofs.YtgdnndapmcjoeaaDoor
open Go.RowKit
def rawL (q : Nat) : List Nat := (q + 1) :: List.replicate 31 0
theorem ids_apart : idText (rawL 0) ≠ idText (rawL 1) ∧ idText (rawL 0) ≠ idText (rawL 2) ∧ idText (rawL 1) ≠ idText (rawL 2) := by decide +kernel
end Go.Proofs.YtgdnndapmcjoeaaDoor
namespace Go
theorem wpList_store_c {P : Program} {ops : Array Oper} {rest : List Oper} {op : Oper} {a : Act} {w : World} {Q : Exit → Act → World → Prop} (hgd : op.guard = none) (ty : TypeId) (x y : Operand) (ho : op.op = .store ty x y)
    (b o : Nat) (v : Value) (hx : a.eval x = .pointer (some ⟨b, o, none⟩)) (hy : a.eval y = v) (ht : w.there b o 1) (hi : (P.info? ty).map (·.size) = some 1) (h1 : v.oneCell' = true)
    (h : wpList P ops Q rest (a.put op.dst undef) (w.setCell ⟨b, o, none⟩ v)) : wpList P ops Q (op :: rest) a w :=
  wpList_plain hgd fun _ hK => by
    have hc : v.cells = #[v] := by cases v <;> first | rfl | cases h1
    have := run_storeCells_cells (P := P) b o [v] 0 w (fun j hj => by simpa using (ht j (by simpa using hj)).1) (fun j hj => by simpa using (ht j (by simpa using hj)).2) (fun u hu => by simp at hu; subst hu; exact h1)
    have hs : (storeVar ty ⟨b, o, none⟩ v).run P w = .ok () (w.setCell ⟨b, o, none⟩ v) := by
      cases hq : P.info? ty with
      | none => simp [hq] at hi
      | some i =>
        have hs : i.size = 1 := by simpa [hq] using hi
        simp only [Nat.add_zero] at this
        simp [storeVar, sizeOf, typeInfo, hq, hc, hs, this]
        rfl
    unfold Oper.wp execOp
    simp only [ho, hx, hy, Instr.storeAt, Instr.sureAddr, Sem.run_bind, Sem.run_pure, Result.andThen_ok, hs]
    exact hK _ _ h
end Go
namespace Go.Proofs.YtgdnndapmcjoeaaDoor
open Go.RowKit Go.Maps
set_option linter.unusedVariables false
def idK (q : Nat) : ByteArray := idText (rawL q)
def idAt (j q : Nat) : ByteArray := if q < j then idK q else ⟨#[]⟩
def idsC (j : Nat) : Array Value := #[.string (idAt j 0), .string (idAt j 1), .string (idAt j 2)]
def rawV (gs : Nat → Nat) (j q : Nat) : Value := if q < j then .slice (some ⟨gs q, 0, none⟩) 32 32 else .slice none 0 0
def rawC (gs : Nat → Nat) (j : Nat) : Array Value := #[rawV gs j 0, rawV gs j 1, rawV gs j 2]
def RR : Nat → Rg
  | 0 => Rg.none
  | j + 1 => (RR j).add (idK j) (rawL j)
theorem ids_set {j : Nat} (hj : j < 3) : (idsC j).setIfInBounds j (.string (idK j)) = idsC (j + 1) := by
  obtain rfl | rfl | rfl : j = 0 ∨ j = 1 ∨ j = 2 := by omega
  all_goals rfl
theorem raw_set {j : Nat} (gs gs' : Nat → Nat) (hj : j < 3) (hg : ∀ q, q < j → gs' q = gs q) : (rawC gs j).setIfInBounds j (.slice (some ⟨gs' j, 0, none⟩) 32 32) = rawC gs' (j + 1) := by
  obtain rfl | rfl | rfl : j = 0 ∨ j = 1 ∨ j = 2 := by omega
  · rfl
  · have h0 := hg 0 (by omega)
    unfold rawC rawV; simp [h0]
  · have h0 := hg 0 (by omega)
    have h1 := hg 1 (by omega)
    unfold rawC rawV; simp [h0, h1]
theorem raw_bytes {j : Nat} : bytesV (rawL j) = (bytesV noughts).setIfInBounds 0 (.int .u8 ((j + 1 : Nat) : Int)) := by
  unfold rawL noughts bytesV
  simp [List.replicate]
theorem rawL_len (j : Nat) : (rawL j).length = 32 := by simp [rawL]
theorem rawL_lt {j : Nat} (hj : j < 3) : ∀ x ∈ rawL j, x < 256 := fun x hx => by
  rcases List.mem_cons.1 hx with rfl | hx
  · omega
  · have := List.eq_of_mem_replicate hx; omega
section
variable {A : Nat → Addr} {W0 w w' : World} {F : Nat → Prop} {b : Nat} {s : Rg}
theorem PrG.set (h : PrG W0 F b s w) {k o : Nat} (hk : ¬ F k) (hk0 : W0.heap.size ≤ k) (v : Value) : PrG W0 F b s (w.setCell ⟨k, o, none⟩ v) := by
  obtain ⟨mk, mb, h1, h2, h3, h4, h5, h6⟩ := h.body
  have hb : ∀ i, F i → (w.setCell ⟨k, o, none⟩ v).heap[i]? = w.heap[i]? := fun i hi => Below.heap_setCell _ _ _ _ (fun e => hk (by
    have e : i = k := e
    rw [← e]; exact hi))
  exact ⟨grown_set h.base (.inl hk0) _, fun i hi => ⟨(h.own i hi).1, by rw [setCell_size]; exact (h.own i hi).2⟩, h.mem, h.good, mk, mb, (hb b h.mem).trans h1, h2.of (fun i e => hb i (h4 i e).1), h3.of (fun i e => hb i (h5 i e).1), h4, h5, h6⟩
end
/-- What lies while the keys come. -/
def C1 (w : World) (b b6 b7 : Nat) (j : Nat) (wr : World) : Prop :=
  ∃ (F : Nat → Prop) (gs : Nat → Nat), PrG w F b (RR j) wr ∧ wr.heap[b6]? = some (.cells (idsC j) 56 (0, 0)) ∧ wr.heap[b7]? = some (.cells (rawC gs j) 57 (0, 0)) ∧ b6 ≠ b7 ∧ w.heap.size ≤ b6 ∧ w.heap.size ≤ b7 ∧ ¬ F b6 ∧ ¬ F b7 ∧
    ∀ q, q < j → wr.heap[gs q]? = some (.cells (bytesV (rawL q)) 5 (0, 0)) ∧ ¬ F (gs q) ∧ gs q ≠ b6 ∧ gs q ≠ b7 ∧ w.heap.size ≤ gs q
theorem C1.start {w w1 : World} (hP : PrG w (fun k => k = w.heap.size) w.heap.size Rg.none w1) (t6 t7 : TypeId) (h6 : t6 = 56) (h7 : t7 = 57) :
    C1 w w.heap.size w1.heap.size (w1.heap.size + 1) 0 ((w1.alloc (.cells #[.string ⟨#[]⟩, .string ⟨#[]⟩, .string ⟨#[]⟩] t6)).alloc (.cells #[.slice none 0 0, .slice none 0 0, .slice none 0 0] t7)) := by
  subst h6; subst h7
  have hlt := (hP.own _ rfl).2
  refine ⟨_, fun _ => 0, (hP.still (World.grownBy_alloc _ _ _)).still (World.grownBy_alloc _ _ _), alloc2_old _ _ _, alloc2_new _ _ _, by omega, by omega, by omega, ?_, ?_, fun q hq => absurd hq (Nat.not_lt_zero _)⟩
  · intro e
    have : w1.heap.size = w.heap.size := e
    omega
  · intro e
    have : w1.heap.size + 1 = w.heap.size := e
    omega
set_option maxHeartbeats 1000000 in
theorem C1.mid {A : Nat → Addr} {w wr : World} {b b6 b7 j : Nat} (h : C1 w b b6 b7 j wr) (hj : j < 3) (hE : AllErrs w A) (hL : Laid w) (W1 W2 W3 : World) (v : Value)
    (h1 : W1 = wr.alloc (.cells (bytesV noughts) 5)) (hv : v = .slice (some ⟨wr.heap.size, 0, none⟩) 32 32) (h2 : W2 = W1.setCell ⟨b7, j, none⟩ v) (h3 : W3 = W2.setCell ⟨wr.heap.size, 0, none⟩ (.int .u8 ((j + 1 : Nat) : Int))) :
    W1.there b7 j 1 ∧ W2.cell? ⟨b7, j, none⟩ = some v ∧ W2.there wr.heap.size 0 1 ∧ W3.cell? ⟨b7, j, none⟩ = some v ∧
      Calls Tryd.prog 18 #[.pointer (some ⟨b, 0, none⟩), v] W3 fun e w4 => e = .returned (.tuple #[.string (idK j), .nilIface]) ∧ w4.there b6 j 1 ∧ C1 w b b6 b7 (j + 1) (w4.setCell ⟨b6, j, none⟩ (.string (idK j))) := by
  obtain ⟨F, gs, hP, k6, k7, hne, l6, l7, n6, n7, hq⟩ := h
  have hb6 := blk_lt k6
  have hb7 := blk_lt k7
  have hnF := hP.apart
  have P1 : PrG w F b (RR j) W1 := by rw [h1]; exact hP.still (World.grownBy_alloc _ _ _)
  have a6 : W1.heap[b6]? = some (.cells (idsC j) 56 (0, 0)) := by rw [h1]; exact alloc_keep k6
  have a7 : W1.heap[b7]? = some (.cells (rawC gs j) 57 (0, 0)) := by rw [h1]; exact alloc_keep k7
  have an : W1.heap[wr.heap.size]? = some (.cells (bytesV noughts) 5 (0, 0)) := by rw [h1]; exact alloc_at _ _
  have aq : ∀ q, q < j → W1.heap[gs q]? = some (.cells (bytesV (rawL q)) 5 (0, 0)) := fun q hqj => by rw [h1]; exact alloc_keep (hq q hqj).1
  have hws := hP.base.size
  have P2 : PrG w F b (RR j) W2 := by rw [h2]; exact P1.set n7 l7 _
  have P3 : PrG w F b (RR j) W3 := by rw [h3]; exact P2.set hnF hws _
  obtain ⟨gs', hgs'⟩ : ∃ gs' : Nat → Nat, gs' = fun q => if q < j then gs q else wr.heap.size := ⟨_, rfl⟩
  have g1 : ∀ q, q < j → gs' q = gs q := fun q hqj => by rw [hgs']; exact if_pos hqj
  have g2 : gs' j = wr.heap.size := by rw [hgs']; exact if_neg (Nat.lt_irrefl _)
  have c7 : W2.heap[b7]? = some (.cells (rawC gs' (j + 1)) 57 (0, 0)) := by
    rw [h2, setCell_heap a7, hv, ← g2, raw_set gs gs' hj g1]
  have hc7 : (rawC gs' (j + 1))[j]? = some v := by
    rw [← raw_set gs gs' hj g1, g2, ← hv, Array.getElem?_setIfInBounds]
    simp [show j < (rawC gs j).size from hj]
  have o2 : ∀ k, k ≠ b7 → W2.heap[k]? = W1.heap[k]? := fun k hk => by rw [h2]; exact Below.heap_setCell _ _ _ _ hk
  have o3 : ∀ k, k ≠ wr.heap.size → W3.heap[k]? = W2.heap[k]? := fun k hk => by rw [h3]; exact Below.heap_setCell _ _ _ _ hk
  have cn : W2.heap[wr.heap.size]? = some (.cells (bytesV noughts) 5 (0, 0)) := (o2 _ (by omega)).trans an
  have dn : W3.heap[wr.heap.size]? = some (.cells (bytesV (rawL j)) 5 (0, 0)) := by rw [h3, setCell_heap cn, raw_bytes]
  have d7 : W3.heap[b7]? = some (.cells (rawC gs' (j + 1)) 57 (0, 0)) := (o3 _ (by omega)).trans c7
  have d6 : W3.heap[b6]? = some (.cells (idsC j) 56 (0, 0)) := (o3 _ (by omega)).trans ((o2 _ hne).trans a6)
  have dq : ∀ q, q < j → W3.heap[gs q]? = some (.cells (bytesV (rawL q)) 5 (0, 0)) := fun q hqj => by
    have := blk_lt (hq q hqj).1
    exact (o3 _ (by omega)).trans ((o2 _ (hq q hqj).2.2.2.1).trans (aq q hqj))
  refine ⟨there_blk a7 j 1 (by show j + 1 ≤ 3; omega), cell_blk c7 j hc7, there_blk cn 0 1 (by rw [bytesV_size]; decide), cell_blk d7 j hc7, ?_⟩
  subst hv
  refine (pgAdd P3 hE hL (some ⟨wr.heap.size, 0, none⟩) 32 (rawL j) (rawL_len j) (fun W hW => ?_)).mono ?_
  · have := (hW.block wr.heap.size (blk_lt dn) hnF).trans dn
    have := blk_bytes (rawL_lt hj) this
    rw [rawL_len] at this
    exact this
  · rintro e w4 ⟨rfl, F', ht, hP'⟩
    have hnot : ∀ {k}, k < W3.heap.size → ¬ F k → ¬ F' k := fun hk hn hf => hn (ht.mine _ hk hf)
    have e6 := (ht.upto.block b6 (blk_lt d6) n6).trans d6
    have e7 := (ht.upto.block b7 (blk_lt d7) n7).trans d7
    have en := (ht.upto.block _ (blk_lt dn) hnF).trans dn
    refine ⟨rfl, there_blk e6 j 1 (by show j + 1 ≤ 3; omega), F', gs', hP'.set (hnot (blk_lt d6) n6) l6 _, ?_, ?_, hne, l6, l7, hnot (blk_lt d6) n6, hnot (blk_lt d7) n7, fun q hqj => ?_⟩
    · rw [setCell_heap e6, ids_set hj]
    · rw [Below.heap_setCell _ _ _ _ (Ne.symm hne)]; exact e7
    · by_cases hqe : q = j
      · subst hqe
        rw [g2]
        refine ⟨?_, hnot (blk_lt dn) hnF, by omega, by omega, hws⟩
        rw [Below.heap_setCell _ _ _ _ (show wr.heap.size ≠ b6 by omega)]; exact en
      · have hq' : q < j := by omega
        obtain ⟨r1, r2, r3, r4, r5⟩ := hq q hq'
        rw [g1 q hq']
        refine ⟨?_, hnot (blk_lt (dq q hq')) r2, r3, r4, r5⟩
        rw [Below.heap_setCell _ _ _ _ r3]
        exact (ht.upto.block _ (blk_lt (dq q hq')) r2).trans (dq q hq')
end Go.Proofs.YtgdnndapmcjoeaaDoor
