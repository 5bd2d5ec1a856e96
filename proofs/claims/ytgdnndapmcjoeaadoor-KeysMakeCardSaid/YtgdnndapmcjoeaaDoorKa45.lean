import Derived.Test.YtgdnndapmcjoeaaDoorKa44
import Derived.Deep.OwnRows
namespace Go.Proofs.YtgdnndapmcjoeaaDoor
open Go.RowKit Go.Maps
set_option linter.unusedVariables false
theorem uInfo : (Tryd.prog.info? 5).map (fun i => (i.zero, i.size, i.bytes)) = some (some (.int .u8 0), 1, 1) := by kernel_rfl
def noughts : List Nat := List.replicate 32 0
theorem made32 (w : World) : (Instr.makeSlice 22 (.int .i64 32) (.int .i64 32)).run Tryd.prog w = .ok (.slice (some ⟨w.heap.size, 0, none⟩) 32 32) (w.alloc (.cells (bytesV noughts) 5)) := by
  have h := run_make_row' (P := Tryd.prog) 22 5 (.int .u8 0) 1 Tryd.underlying22 uInfo rfl .i64 .i64 32 (by decide) (by decide) w
  have e : madeCells #[Value.int .u8 0] 32 = bytesV noughts := by kernel_rfl
  rw [e] at h
  exact h
theorem blk_bytes {w : World} {g : Nat} {l : List Nat} {t : TypeId} {fr : Nat × Nat} (h8 : ∀ x ∈ l, x < 256) (h : w.heap[g]? = some (.cells (bytesV l) t fr)) : Bytes w (.slice (some ⟨g, 0, none⟩) l.length l.length) l :=
  ⟨h8, some ⟨g, 0, none⟩, g, 0, l.length, rfl, Nat.le_refl _, fun _ => ⟨rfl, blk_lt h⟩, fun j hj => by rw [Nat.zero_add]; exact cell_blk h j (bytesV_at l j hj)⟩
theorem noughts_lt : ∀ x ∈ noughts, x < 256 := by decide
def aS : ByteArray := ⟨#[97]⟩
def bS : ByteArray := ⟨#[98]⟩
def s1 : Rg := Rg.none.add (idText noughts) noughts
def s2 : Rg := s1.sign (idText noughts, aS, strOf [109])
theorem s1_get : s1.get (idText noughts) = some noughts := Rg.get_add_same rfl
theorem aE : recE s1 (idText noughts) aS [109] = 0 := by unfold recE; rw [s1_get, if_neg (by simp)]; decide
theorem s2_get (id : ByteArray) : s2.get id = s1.get id := rfl
theorem aV : verE s2 (idText noughts) aS [109] (recS s1 (idText noughts) aS [109]) = 0 := by
  have h1 : recE s2 (idText noughts) aS [109] = 0 := aE
  have h2 : recS s2 (idText noughts) aS [109] = recS s1 (idText noughts) aS [109] := rfl
  have h3 : (idText noughts, aS, strOf [109]) ∈ s2.bk := by
    show _ ∈ Rg.signB [] _
    unfold Rg.signB
    rw [if_neg (by simp)]; simp
  unfold verE
  rw [if_neg (fun h => h h1), if_pos ⟨h2, h3⟩]
theorem bV (sg : List Nat) : verE s2 (idText noughts) bS [109] sg = 12 := by
  have h1 : recE s2 (idText noughts) bS [109] = 0 := by unfold recE; rw [s2_get, s1_get, if_neg (by simp)]; decide
  have h3 : ¬ (idText noughts, bS, strOf [109]) ∈ s2.bk := by
    show ¬ _ ∈ Rg.signB [] _
    unfold Rg.signB
    rw [if_neg (by simp)]
    intro h
    simp only [List.nil_append, List.mem_singleton, Prod.mk.injEq] at h
    exact absurd h.2.1 (by decide)
  unfold verE
  rw [if_neg (fun h => h h1), if_neg (fun h => h3 h.2)]
section
variable {A : Nat → Addr} {W0 w : World} {F : Nat → Prop} {b : Nat}
theorem grown_of_alloc {a c : World} {o : Obj} (h : (a.alloc o).grownBy c none) : a.grownBy c none := grown_trans (World.grownBy_alloc _ _ _) h
/-- A block that is not the ring's. -/
theorem PrG.apart {s : Rg} (h : PrG W0 F b s w) : ¬ F w.heap.size := fun hf => by have := (h.own _ hf).2; omega
theorem alAdd (h : PrG W0 F b Rg.none w) (hE : AllErrs W0 A) (hL : Laid W0) :
    Calls Tryd.prog 18 #[.pointer (some ⟨b, 0, none⟩), .slice (some ⟨w.heap.size, 0, none⟩) 32 32] (w.alloc (.cells (bytesV noughts) 5)) fun e w' => e = .returned (.tuple #[.string (idText noughts), .nilIface]) ∧ ∃ F', PrG W0 F' b s1 w' := by
  have hn := h.apart
  have h2 := h.still (w' := w.alloc (.cells (bytesV noughts) 5)) (World.grownBy_alloc _ _ _)
  refine (pgAdd h2 hE hL (some ⟨w.heap.size, 0, none⟩) 32 noughts rfl (fun W hW => ?_)).mono (fun e w' hp => ⟨hp.1, by obtain ⟨F', h1, h2⟩ := hp.2; exact ⟨F', h2⟩⟩)
  have := (hW.block w.heap.size (by rw [alloc_size]; omega) hn).trans (alloc_at w _)
  exact blk_bytes noughts_lt this
theorem alSign (h : PrG W0 F b s1 w) (hE : AllErrs W0 A) (hL : Laid W0) :
    Calls Tryd.prog 19 #[.pointer (some ⟨b, 0, none⟩), .string (idText noughts), .string aS, .slice (some ⟨w.heap.size, 0, none⟩) 1 1] (w.alloc (.cells #[.int .u8 109] 5 (1, 2))) fun e w' => ∃ g F', e = .returned (.tuple #[.slice (some ⟨g, 0, none⟩) 32 32, .nilIface]) ∧ w'.heap[g]? = some (.cells (bytesV (recS s1 (idText noughts) aS [109])) 64 (0, 0)) ∧ PrG W0 F' b s2 w' := by
  have hn := h.apart
  have h2 := h.still (w' := w.alloc (.cells #[.int .u8 109] 5 (1, 2))) (World.grownBy_alloc _ _ _)
  refine (pgSign h2 hE hL (idText noughts) aS (by rw [id_size]; decide) (by decide) (some ⟨w.heap.size, 0, none⟩) 1 [109] (by decide) (fun W hW => ?_) (Whole0.some _ _ _)).mono ?_
  · have := (hW.block w.heap.size (by rw [alloc_size]; omega) hn).trans (alloc_at w _)
    exact blk_bytes (l := [109]) (by decide) this
  · rintro e w' (⟨he, _⟩ | ⟨_, g, F', rfl, hg, hgd, _, _, hp⟩)
    · exact absurd aE he
    · exact ⟨g, F', rfl, hgd, hp⟩
theorem alVer (h : PrG W0 F b s2 w) (hE : AllErrs W0 A) (hL : Laid W0) (dom : ByteArray) (hd : dom.size ≤ 1000) (g : Nat) (sg : List Nat) (hs : sg.length = 32) (hs8 : ∀ x ∈ sg, x < 256) (hg : w.heap[g]? = some (.cells (bytesV sg) 64 (0, 0))) :
    Calls Tryd.prog 21 #[.pointer (some ⟨b, 0, none⟩), .string (idText noughts), .string dom, .slice (some ⟨w.heap.size, 0, none⟩) 1 1, .slice (some ⟨g, 0, none⟩) 32 32] (w.alloc (.cells #[.int .u8 109] 5 (1, 2))) fun e w' => e = .returned (errOf A (verE s2 (idText noughts) dom [109] sg)) ∧ (w.alloc (.cells #[.int .u8 109] 5 (1, 2))).grownBy w' none := by
  have h2 := h.still (w' := w.alloc (.cells #[.int .u8 109] 5 (1, 2))) (World.grownBy_alloc _ _ _)
  have hb := blk_bytes (l := [109]) (by decide) (alloc_at w (.cells #[.int .u8 109] 5 (1, 2)))
  have hb2 := row_bytes hs8 (alloc_keep (o := .cells #[.int .u8 109] 5 (1, 2)) hg)
  have := pgVerify h2 hE hL (idText noughts) dom (by rw [id_size]; decide) hd (some ⟨w.heap.size, 0, none⟩) 1 [109] (by decide) hb (Whole0.some _ _ _) (some ⟨g, 0, none⟩) sg.length sg (by omega) hb2
  rw [hs] at this
  exact this
end
set_option maxRecDepth 100000 in
set_option maxHeartbeats 1000000 in
theorem alive10_any (A : Nat → Addr) (w : World) (hE : AllErrs w A) (hL : Laid w) :
    Calls Tryd.prog 7 #[] w fun e w' => e = .returned (.bool true) ∧ w.grownBy w' none := by
  obtain ⟨ID, hID⟩ : ∃ ID, ID = idText noughts := ⟨_, rfl⟩
  obtain ⟨SG, hSG⟩ : ∃ SG, SG = recS s1 (idText noughts) aS [109] := ⟨_, rfl⟩
  have hmk := made32
  have HA : Hid (∀ F w1, PrG w F w.heap.size Rg.none w1 → Calls Tryd.prog 18 #[.pointer (some ⟨w.heap.size, 0, none⟩), .slice (some ⟨w1.heap.size, 0, none⟩) 32 32] (w1.alloc (.cells (bytesV noughts) 5)) fun e w' => e = .returned (.tuple #[.string ID, .nilIface]) ∧ ∃ F', PrG w F' w.heap.size s1 w') := Lib.hid (fun F w1 h => by rw [hID]; exact alAdd h hE hL)
  have HS : Hid (∀ F w2, PrG w F w.heap.size s1 w2 → Calls Tryd.prog 19 #[.pointer (some ⟨w.heap.size, 0, none⟩), .string ID, .string ⟨#[97]⟩, .slice (some ⟨w2.heap.size, 0, none⟩) 1 1] (w2.alloc (.cells #[.int .u8 109] 5 (1, 2))) fun e w' => ∃ g F', e = .returned (.tuple #[.slice (some ⟨g, 0, none⟩) 32 32, .nilIface]) ∧ w'.heap[g]? = some (.cells (bytesV SG) 64 (0, 0)) ∧ PrG w F' w.heap.size s2 w') := Lib.hid (fun F w2 h => by rw [hID, hSG]; exact alSign h hE hL)
  have hs32 : SG.length = 32 := by rw [hSG]; exact recS_len _ _ _ _
  have hs8 : ∀ x ∈ SG, x < 256 := by rw [hSG]; exact recS_lt _ _ _ _
  have HVa : Hid (∀ F w3 g, PrG w F w.heap.size s2 w3 → w3.heap[g]? = some (.cells (bytesV SG) 64 (0, 0)) → Calls Tryd.prog 21 #[.pointer (some ⟨w.heap.size, 0, none⟩), .string ID, .string ⟨#[97]⟩, .slice (some ⟨w3.heap.size, 0, none⟩) 1 1, .slice (some ⟨g, 0, none⟩) 32 32] (w3.alloc (.cells #[.int .u8 109] 5 (1, 2))) fun e w' => e = .returned .nilIface ∧ (w3.alloc (.cells #[.int .u8 109] 5 (1, 2))).grownBy w' none) := Lib.hid (fun F w3 g h hg => by
    have := alVer h hE hL aS (by decide) g SG hs32 hs8 hg
    rw [hSG, aV, ← hID, errOf, if_pos rfl] at this
    exact this)
  have HVb : Hid (∀ F w3 g, PrG w F w.heap.size s2 w3 → w3.heap[g]? = some (.cells (bytesV SG) 64 (0, 0)) → Calls Tryd.prog 21 #[.pointer (some ⟨w.heap.size, 0, none⟩), .string ID, .string ⟨#[98]⟩, .slice (some ⟨w3.heap.size, 0, none⟩) 1 1, .slice (some ⟨g, 0, none⟩) 32 32] (w3.alloc (.cells #[.int .u8 109] 5 (1, 2))) fun e w' => e = .returned (errV A 12) ∧ (w3.alloc (.cells #[.int .u8 109] 5 (1, 2))).grownBy w' none) := Lib.hid (fun F w3 g h hg => by
    have := alVer h hE hL bS (by decide) g SG hs32 hs8 hg
    rw [bV, ← hID, errOf, if_neg (by decide)] at this
    exact this)
  have HN : Hid (∀ W, w.grownBy W none → Calls Tryd.prog 11 #[errV A 12] W fun e w' => e = .returned (.int .i64 12) ∧ W.grownBy w' none) := Lib.hid (fun W hW => by
    have := num_of A 12 (by decide) W (hE.grown hW)
    rw [errOf, if_neg (by decide)] at this
    exact this)
  have HNew := Lib.hid (gnew_any w)
  have HP0 : Hid (PrG w (fun k => k = w.heap.size) w.heap.size Rg.none (w.alloc (.cells #[.map none, .map none] 83))) := Lib.hid (PrG.new (grown_refl _ _))
  generalize bytesV SG = ROW at *
  clear hID hSG hs32 hs8 hE hL
  go_enter Tryd.func7, Tryd.ntmps7
  go_wp2_with (first
    | (go_at_call 14; refine HNew.out.mono ?_; rintro e w1 ⟨rfl, hw1⟩; have P1 : Hid (PrG w (fun k => k = w.heap.size) w.heap.size Rg.none w1) := Lib.hid (by rw [hw1]; exact HP0.out); clear hw1)
    | (go_at_call 18; refine (HA.out _ w1 P1.out).mono ?_; rintro e w2 ⟨rfl, F2, hp2⟩; have P2 := Lib.hid hp2; clear hp2; have hc2 := conv25 1 w2 #[.int .u8 109] rfl)
    | (go_at_call 19; refine (HS.out _ w2 P2.out).mono ?_; rintro e w3 ⟨g, F3, rfl, hgd, hp3⟩; have P3 := Lib.hid hp3; have GD := Lib.hid hgd; clear hp3 hgd; have hc3 := conv25 1 w3 #[.int .u8 109] rfl)
    | (go_at_call 21; (with_reducible refine (HVa.out _ w3 g P3.out GD.out).mono ?_); rintro e w4 ⟨rfl, hg4⟩; have G4 := Lib.hid (grown_of_alloc hg4); have P4 := Lib.hid (P3.out.still G4.out); have GD4 := Lib.hid ((G4.out.block g (blk_lt GD.out) (by simp)).trans GD.out); clear hg4; have hc4 := conv25 1 w4 #[.int .u8 109] rfl)
    | (go_at_call 21; (with_reducible refine (HVb.out _ w4 g P4.out GD4.out).mono ?_); rintro e w5 ⟨rfl, hg5⟩; have P5 := Lib.hid (P4.out.still (grown_of_alloc hg5)); clear hg5)
    | (go_at_call 11; refine (HN.out w5 P5.out.base).mono ?_; rintro e w6 ⟨rfl, hg6⟩; have G6 := Lib.hid (grown_trans P5.out.base hg6); clear hg6))
  go_ret
  exact ⟨rfl, G6.out⟩
end Go.Proofs.YtgdnndapmcjoeaaDoor
