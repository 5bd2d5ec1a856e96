import Derived.Test.YtgdnndapmcjoeaaDoorKe09
import Derived.Test.YtgdnndapmcjoeaaDoorKe33
namespace Go.Proofs.YtgdnndapmcjoeaaDoor
open Go.RowKit Go.Maps
set_option linter.unusedVariables false
section
variable {P : Program} {a : Act} {o : Oper} {w : World}
theorem kfield_val {t : TypeId} {x : Operand} {k : Nat} {p v : Value} (ho : o.op = .fieldAddr t x k) (hx : a.eval x = p) (h : (Instr.fieldAt t p k).run P w = .ok v w) : (execOp a.eval o).run P w = .ok (.value v) w := by
  simp [execOp, ho, hx, h, Result.andThen]
theorem kload_val {t : TypeId} {x : Operand} {p v : Value} (ho : o.op = .load t x) (hx : a.eval x = p) (h : (Instr.loadAt t p).run P w = .ok v w) : (execOp a.eval o).run P w = .ok (.value v) w := by
  simp [execOp, ho, hx, h, Result.andThen]
end
section
variable {a : Act} {us : Nat → Value} {D : List Nat} {d : Nat}
theorem kfill_nil : fill a [] us = a := by
  obtain ⟨⟨l⟩, e⟩ := a
  unfold fill
  congr 1
  congr 1
  refine List.ext_getElem (by simp) fun i h1 h2 => ?_
  simp
theorem kfill_cons : fill a (d :: D) us = (fill a D us).put (some d) (us d) := by
  obtain ⟨⟨l⟩, e⟩ := a
  show (⟨_, e⟩ : Act) = ⟨((l.mapIdx fun k x => if D.contains k then us k else x).toArray).setIfInBounds d (us d), e⟩
  congr 1
  rw [List.setIfInBounds_toArray]
  congr 1
  refine List.ext_getElem (by simp only [List.length_set, List.length_mapIdx]) fun i h1 h2 => ?_
  simp only [List.getElem_set, List.getElem_mapIdx, List.contains_cons]
  by_cases hi : d = i
  · subst hi; simp
  · rw [if_neg hi]
    have : (i == d) = false := by simp; exact fun h => hi h.symm
    rw [this, Bool.false_or]
end
def kRegions : Code → List Code
  | .seq a b => kRegions a ++ kRegions b
  | .cond _ a b => kRegions a ++ kRegions b
  | .block _ c => kRegions c
  | .loop c => kRegions c
  | .scope c => kRegions c
  | .region i o d => [.region i o d]
  | _ => []
def kRegion (c : Option Code) (k : Nat) : Code := (((c.map kRegions).getD []).find? fun r => match r with | .region i _ _ => i == k | _ => false).getD .skip
theorem kLoadS {g o : Nat} {w : World} {s : ByteArray} (h : w.cell? ⟨g, o, none⟩ = some (.string s)) : (Instr.loadAt 9 (.pointer (some ⟨g, o, none⟩))).run Tryd.prog w = .ok (.string s) w := by simp [go_sem, h]
theorem kLoadB {g o : Nat} {w : World} {a : Option Addr} {n c : Nat} (h : w.cell? ⟨g, o, none⟩ = some (.slice a n c)) : (Instr.loadAt 22 (.pointer (some ⟨g, o, none⟩))).run Tryd.prog w = .ok (.slice a n c) w := by simp [go_sem, h]
end Go.Proofs.YtgdnndapmcjoeaaDoor
namespace Go.Proofs.YtgdnndapmcjoeaaDoor
open Go.RowKit Go.Maps
set_option linter.unusedVariables false
theorem idK_apart {p q : Nat} (hp : p < 3) (hq : q < 3) (h : idK p = idK q) : p = q := by
  obtain ⟨h1, h2, h3⟩ : idK 0 ≠ idK 1 ∧ idK 0 ≠ idK 2 ∧ idK 1 ≠ idK 2 := ids_apart
  obtain rfl | rfl | rfl : p = 0 ∨ p = 1 ∨ p = 2 := by omega
  all_goals obtain rfl | rfl | rfl : q = 0 ∨ q = 1 ∨ q = 2 := by omega
  all_goals first
    | rfl
    | (with_reducible exact absurd h h1)
    | (with_reducible exact absurd h h2)
    | (with_reducible exact absurd h h3)
    | (with_reducible exact absurd h.symm h1)
    | (with_reducible exact absurd h.symm h2)
    | (with_reducible exact absurd h.symm h3)
theorem idK_size (q : Nat) : (idK q).size ≤ 1000 := by unfold idK; rw [id_size]; decide
theorem rr_none : ∀ (j q : Nat), j ≤ q → q < 3 → (RR j).get (idK q) = none
  | 0, _, _, _ => rfl
  | j + 1, q, h, hq => by
    show ((RR j).add (idK j) (rawL j)).get (idK q) = none
    rw [Rg.get_add_other (fun he => by have := idK_apart hq (by omega) he; omega)]
    exact rr_none j q (by omega) hq
theorem ks3 {s : Rg} (h : s.ks = (RR 3).ks) {q : Nat} (hq : q < 3) : s.get (idK q) = some (rawL q) := by
  have e : s.get (idK q) = (RR 3).get (idK q) := by unfold Rg.get; rw [h]
  rw [e]
  have ne : ∀ {p}, p < 3 → p ≠ q → idK q ≠ idK p := fun hp hn he => hn (idK_apart hp hq he.symm)
  show (((RR 2).add (idK 2) (rawL 2)).get (idK q)) = _
  by_cases h2 : 2 = q
  · subst h2; exact Rg.get_add_same (rr_none 2 2 (by decide) (by decide))
  · rw [Rg.get_add_other (ne (by decide) h2)]
    show (((RR 1).add (idK 1) (rawL 1)).get (idK q)) = _
    by_cases h1 : 1 = q
    · subst h1; exact Rg.get_add_same (rr_none 1 1 (by decide) (by decide))
    · rw [Rg.get_add_other (ne (by decide) h1)]
      show ((Rg.none.add (idK 0) (rawL 0)).get (idK q)) = _
      by_cases h0 : 0 = q
      · subst h0; exact Rg.get_add_same rfl
      · omega
theorem recE3 {s : Rg} (h : s.ks = (RR 3).ks) {q : Nat} (hq : q < 3) (dom : ByteArray) (m : List Nat) : recE s (idK q) dom m = fErr (strL dom) [m] := by
  unfold recE
  rw [ks3 h hq, if_neg (by simp)]
theorem mem_sign {s : Rg} {x y : ByteArray × ByteArray × ByteArray} : y ∈ (s.sign x).bk ↔ y ∈ s.bk ∨ y = x := by
  show y ∈ Rg.signB s.bk x ↔ _
  unfold Rg.signB
  split
  · rename_i h
    constructor
    · exact .inl
    · rintro (h1 | rfl)
      · exact h1
      · exact h
  · simp
/-- Whether this was signed by what comes. -/
def hit (n k : Nat) (d dom : ByteArray) (m msg : List Nat) : Bool := decide (n = k) && (decide (d = dom) && decide (strOf m = strOf msg))
/-- What lies while there is signed. -/
def C2 (w : World) (b b6 b7 : Nat) (gs : Nat → Nat) (k : Nat) (dom : ByteArray) (msg : List Nat) (was : Bool) (wr : World) : Prop :=
  ∃ (F : Nat → Prop) (s : Rg), PrG w F b s wr ∧ s.ks = (RR 3).ks ∧ was = decide ((idK k, dom, strOf msg) ∈ s.bk) ∧ wr.heap[b6]? = some (.cells (idsC 3) 56 (0, 0)) ∧ wr.heap[b7]? = some (.cells (rawC gs 3) 57 (0, 0)) ∧ ¬ F b6 ∧ ¬ F b7 ∧
    ∀ q, q < 3 → wr.heap[gs q]? = some (.cells (bytesV (rawL q)) 5 (0, 0)) ∧ ¬ F (gs q)
theorem C1.done {w wr : World} {b b6 b7 : Nat} (h : C1 w b b6 b7 3 wr) (k : Nat) (dom : ByteArray) (msg : List Nat) : ∃ gs, C2 w b b6 b7 gs k dom msg false wr := by
  obtain ⟨F, gs, hP, k6, k7, hne, l6, l7, n6, n7, hq⟩ := h
  exact ⟨gs, F, RR 3, hP, rfl, by simp [RR, Rg.add_bk, Rg.none], k6, k7, n6, n7, fun q hq3 => ⟨(hq q hq3).1, (hq q hq3).2.1⟩⟩
section
variable {A : Nat → Addr} {w wr : World} {b b6 b7 k : Nat} {gs : Nat → Nat} {dom : ByteArray} {msg : List Nat} {was : Bool}
theorem C2.still (h : C2 w b b6 b7 gs k dom msg was wr) {w' : World} (hg : wr.grownBy w' none) : C2 w b b6 b7 gs k dom msg was w' := by
  obtain ⟨F, s, hP, hk, hw, k6, k7, n6, n7, hq⟩ := h
  exact ⟨F, s, hP.still hg, hk, hw, (hg.block _ (blk_lt k6) (by simp)).trans k6, (hg.block _ (blk_lt k7) (by simp)).trans k7, n6, n7, fun q hq3 => ⟨(hg.block _ (blk_lt (hq q hq3).1) (by simp)).trans (hq q hq3).1, (hq q hq3).2⟩⟩
theorem C2.base (h : C2 w b b6 b7 gs k dom msg was wr) : w.grownBy wr none := by obtain ⟨F, s, hP, _⟩ := h; exact hP.base
theorem C2.id (h : C2 w b b6 b7 gs k dom msg was wr) {q : Nat} (hq : q < 3) : wr.cell? ⟨b6, q, none⟩ = some (.string (idK q)) := by
  obtain ⟨F, s, hP, hk, hw, k6, _⟩ := h
  refine cell_blk k6 q ?_
  obtain rfl | rfl | rfl : q = 0 ∨ q = 1 ∨ q = 2 := by omega
  all_goals rfl
/-- The same, with a block that isn't the ring's. -/
def C2z (w : World) (b b6 b7 : Nat) (gs : Nat → Nat) (k : Nat) (dom : ByteArray) (msg : List Nat) (z : Nat) (o : Obj) (was : Bool) (wr : World) : Prop :=
  ∃ (F : Nat → Prop) (s : Rg), PrG w F b s wr ∧ s.ks = (RR 3).ks ∧ was = decide ((idK k, dom, strOf msg) ∈ s.bk) ∧ wr.heap[b6]? = some (.cells (idsC 3) 56 (0, 0)) ∧ wr.heap[b7]? = some (.cells (rawC gs 3) 57 (0, 0)) ∧ ¬ F b6 ∧ ¬ F b7 ∧
    (∀ q, q < 3 → wr.heap[gs q]? = some (.cells (bytesV (rawL q)) 5 (0, 0)) ∧ ¬ F (gs q)) ∧ ¬ F z ∧ wr.heap[z]? = some o
theorem C2z.c2 {z : Nat} {o : Obj} (h : C2z w b b6 b7 gs k dom msg z o was wr) : C2 w b b6 b7 gs k dom msg was wr := by
  obtain ⟨F, s, hP, hk, hw, k6, k7, n6, n7, hq, _⟩ := h
  exact ⟨F, s, hP, hk, hw, k6, k7, n6, n7, hq⟩
theorem C2z.blk {z : Nat} {o : Obj} (h : C2z w b b6 b7 gs k dom msg z o was wr) : wr.heap[z]? = some o := by
  obtain ⟨F, s, hP, hk, hw, k6, k7, n6, n7, hq, _, ho⟩ := h
  exact ho
theorem C2.with (h : C2 w b b6 b7 gs k dom msg was wr) {z : Nat} {o : Obj} (hz : wr.heap.size ≤ z) {w' : World} (hg : wr.grownBy w' none) (ho : w'.heap[z]? = some o) : C2z w b b6 b7 gs k dom msg z o was w' := by
  obtain ⟨F, s, hP, hk, hw, k6, k7, n6, n7, hq⟩ := h
  exact ⟨F, s, hP.still hg, hk, hw, (hg.block _ (blk_lt k6) (by simp)).trans k6, (hg.block _ (blk_lt k7) (by simp)).trans k7, n6, n7, fun q hq3 => ⟨(hg.block _ (blk_lt (hq q hq3).1) (by simp)).trans (hq q hq3).1, (hq q hq3).2⟩, fun hf => (by have := (hP.own _ hf).2; omega), ho⟩
theorem C2z.still {z : Nat} {o : Obj} (h : C2z w b b6 b7 gs k dom msg z o was wr) {w' : World} (hg : wr.grownBy w' none) : C2z w b b6 b7 gs k dom msg z o was w' := by
  obtain ⟨F, s, hP, hk, hw, k6, k7, n6, n7, hq, nz, ho⟩ := h
  exact ⟨F, s, hP.still hg, hk, hw, (hg.block _ (blk_lt k6) (by simp)).trans k6, (hg.block _ (blk_lt k7) (by simp)).trans k7, n6, n7, fun q hq3 => ⟨(hg.block _ (blk_lt (hq q hq3).1) (by simp)).trans (hq q hq3).1, (hq q hq3).2⟩, nz, (hg.block _ (blk_lt ho) (by simp)).trans ho⟩
/-- Signed. -/
theorem C2z.sign {z : Nat} {o : Obj} (h : C2z w b b6 b7 gs k dom msg z o was wr) (hk3 : k < 3) (hE : AllErrs w A) (hL : Laid w) {n : Nat} (hn : n < 3) (d : ByteArray) (hd : d.size ≤ 1000) (va : Option Addr) (vc : Nat) (m : List Nat) (hml : m.length ≤ 100000) (hB : Bytes w (.slice va m.length vc) m) (hB0 : Whole0 (.slice va m.length vc)) (he : fErr (strL d) [m] = 0) :
    Calls Tryd.prog 19 #[.pointer (some ⟨b, 0, none⟩), .string (idK n), .string d, .slice va m.length vc] wr fun e w' => ∃ g, e = .returned (.tuple #[.slice (some ⟨g, 0, none⟩) 32 32, .nilIface]) ∧ C2z w b b6 b7 gs k dom msg z o (was || hit n k d dom m msg) w' := by
  obtain ⟨F, s, hP, hk, hw, k6, k7, n6, n7, hq, hbF, ho⟩ := h
  refine (pgSign hP hE hL (idK n) d (idK_size n) hd va vc m hml (fun W hW => hB.grown (hW.base hP.base (fun k hk => (hP.own k hk).1))) hB0).mono ?_
  rintro e w' (⟨h1, _⟩ | ⟨_, g, F', rfl, _, _, _, ht, hP'⟩)
  · rw [recE3 hk hn] at h1; exact absurd he h1
  · have hnot : ∀ {i}, i < wr.heap.size → ¬ F i → ¬ F' i := fun hi hn hf => hn (ht.mine _ hi hf)
    have stay : ∀ {i o}, wr.heap[i]? = some o → ¬ F i → w'.heap[i]? = some o := fun h hn => (ht.upto.block _ (blk_lt h) hn).trans h
    refine ⟨g, rfl, F', _, hP', hk, ?_, stay k6 n6, stay k7 n7, hnot (blk_lt k6) n6, hnot (blk_lt k7) n7, fun q hq3 => ⟨stay (hq q hq3).1 (hq q hq3).2, hnot (blk_lt (hq q hq3).1) (hq q hq3).2⟩, hnot (blk_lt ho) hbF, stay ho hbF⟩
    rw [hw]
    unfold hit
    rw [Bool.eq_iff_iff]
    simp only [Bool.or_eq_true, Bool.and_eq_true, decide_eq_true_eq, mem_sign, Prod.mk.injEq]
    constructor
    · rintro (h1 | ⟨h1, h2, h3⟩)
      · exact .inl h1
      · exact .inr ⟨by rw [h1], h2.symm, h3.symm⟩
    · rintro (h1 | ⟨h1, h2, h3⟩)
      · exact .inl h1
      · exact .inr ⟨(idK_apart hn hk3 h1.symm).symm ▸ rfl, h2.symm, h3.symm⟩
end
/-- The document's Frame of one part. -/
theorem kFrame0 {W : World} {g : Nat} {va : Option Addr} {n vc : Nat} {msg : List Nat} (dom : ByteArray) (hd : dom.size ≤ 1000) (hg : W.heap[g]? = some (.cells #[.slice va n vc] 22 (0, 0))) (hB : Bytes W (.slice va n vc) msg) (hB0 : Whole0 (.slice va n vc)) (hf : fErr (strL dom) [msg] = 0) :
    Calls Tryd.prog 20 #[.string dom, .slice (some ⟨g, 0, none⟩) 1 1] W fun e w' => ∃ fa fn fc, e = .returned (.tuple #[.slice fa fn fc, .int .i64 0]) ∧ W.grownBy w' none := by
  refine (refFrame_any dom [msg] (some ⟨g, 0, none⟩) g 0 1 1 rfl W (fun _ => ⟨rfl, blk_lt hg⟩) (one_part hg hB hB0) (by omega) (by decide)).mono ?_
  rintro e w' ⟨⟨v, rfl, h1, _⟩, hgr⟩
  obtain ⟨fa, _, fc, rfl, _⟩ := ownsRow_form (h1 hf).own
  exact ⟨fa, _, fc, by rw [hf]; rfl, hgr⟩
theorem kFrame1 {W : World} {g : Nat} {va : Option Addr} {n vc : Nat} {msg : List Nat} (dom : ByteArray) (hd : dom.size ≤ 1000) (hg : W.heap[g]? = some (.cells #[.slice va n vc] 22 (0, 0))) (hB : Bytes W (.slice va n vc) msg) (hB0 : Whole0 (.slice va n vc)) (hf : fErr (strL dom) [msg] ≠ 0) :
    Calls Tryd.prog 20 #[.string dom, .slice (some ⟨g, 0, none⟩) 1 1] W fun e w' => e = .returned (.tuple #[.slice none 0 0, .int .i64 (fErr (strL dom) [msg] : Nat)]) ∧ W.grownBy w' none := by
  refine (refFrame_any dom [msg] (some ⟨g, 0, none⟩) g 0 1 1 rfl W (fun _ => ⟨rfl, blk_lt hg⟩) (one_part hg hB hB0) (by omega) (by decide)).mono ?_
  rintro e w' ⟨⟨v, rfl, _, h2⟩, hgr⟩
  rw [h2 hf]
  exact ⟨rfl, hgr⟩
end Go.Proofs.YtgdnndapmcjoeaaDoor
namespace Go.Proofs.YtgdnndapmcjoeaaDoor
open Go.RowKit Go.Maps
set_option linter.unusedVariables false
section
variable {P : Program} {a : Act} {o : Oper} {w : World}
theorem keqlint_val {t r : TypeId} {x y : Operand} {k : IntKind} {s : Int} (ho : o.op = .binOp .eql t x y r) (hx : a.eval x = .int k s) (hy : a.eval y = .int k s) : (execOp a.eval o).run P w = .ok (.value (.bool true)) w := by
  simp only [execOp, ho, hx, hy]
  simp [go_sem, eqGuard, Sem.run_pure, binOp]
end
end Go.Proofs.YtgdnndapmcjoeaaDoor
namespace Go.Proofs.YtgdnndapmcjoeaaDoor
open Go.RowKit Go.Maps
set_option linter.unusedVariables false
theorem C1.base {w wr : World} {b b6 b7 j : Nat} (h : C1 w b b6 b7 j wr) : w.grownBy wr none := by obtain ⟨F, gs, hP, _⟩ := h; exact hP.base
structure Sg where
  key : Int
  dom : ByteArray
  msg : List Nat
def Sg.zero : Sg := ⟨0, ⟨#[]⟩, []⟩
theorem kStr {a b : ByteArray} (h : strL a = strL b) : a = b := by
  have := congrArg strOf h
  rwa [strOf_strL, strOf_strL] at this
theorem kBeq (a b : ByteArray) : decide (a = b) = (a.toList == b.toList) := by
  rw [str_beq, decide_eq_decide]
  exact ⟨fun h => by rw [h], kStr⟩
end Go.Proofs.YtgdnndapmcjoeaaDoor
namespace Go.Proofs.YtgdnndapmcjoeaaDoor
open Go.RowKit Go.Maps
set_option linter.unusedVariables false
def k0 : ByteArray × List Nat := (⟨#[]⟩, [])
/-- Keys, one behind the other. -/
def KeysV (w : World) (v : Value) (ks : List (ByteArray × List Nat)) : Prop :=
  ∃ (a : Option Addr) (g o c : Nat), v = .slice a ks.length c ∧ (0 < ks.length → a = some ⟨g, o, none⟩ ∧ g < w.heap.size) ∧ ∀ j, j < ks.length → ∃ y, w.cell? ⟨g, o + j * 2, none⟩ = some (.string (ks.getD j k0).1) ∧ w.cell? ⟨g, o + j * 2 + 1, none⟩ = some y ∧ Bytes w y (ks.getD j k0).2 ∧ Whole0 y
theorem KeysV.grown {w w' : World} {v : Value} {ks : List (ByteArray × List Nat)} (h : KeysV w v ks) (hg : w.grownBy w' none) : KeysV w' v ks := by
  obtain ⟨a, g, o, c, h1, h2, h3⟩ := h
  refine ⟨a, g, o, c, h1, fun h => ⟨(h2 h).1, Nat.lt_of_lt_of_le (h2 h).2 hg.size⟩, fun j hj => ?_⟩
  obtain ⟨y, e1, e2, e3, e4⟩ := h3 j hj
  have e : ∀ o, w'.cell? ⟨g, o, none⟩ = w.cell? ⟨g, o, none⟩ := fun o => World.cell?_of_block (hg.block g (h2 (by omega)).2 (by simp))
  exact ⟨y, by rw [e]; exact e1, by rw [e]; exact e2, e3.grown hg, e4⟩
/-- The key of a number, the first of it. -/
def fd (ks : List (ByteArray × List Nat)) (id : ByteArray) : Option (List Nat) := (ks.find? (fun p => decide (p.1 = id))).map (·.2)
theorem fd_at {ks : List (ByteArray × List Nat)} {id : ByteArray} {j : Nat} (hj : j < ks.length) (h : (ks.getD j k0).1 = id) (hn : ∀ q, q < j → (ks.getD q k0).1 ≠ id) : fd ks id = some (ks.getD j k0).2 := by
  induction ks generalizing j with
  | nil => simp at hj
  | cons p r ih =>
    unfold fd
    cases j with
    | zero => rw [List.find?_cons_of_pos (by simpa using h)]; rfl
    | succ j =>
      have h0 := hn 0 (by omega)
      rw [List.find?_cons_of_neg (by simpa using h0)]
      exact ih (j := j) (by simpa using hj) (by simpa using h) (fun q hq => by simpa using hn (q + 1) (by omega))
theorem fd_none {ks : List (ByteArray × List Nat)} {id : ByteArray} (hn : ∀ q, q < ks.length → (ks.getD q k0).1 ≠ id) : fd ks id = none := by
  unfold fd
  rw [Option.map_eq_none_iff, List.find?_eq_none]
  intro p hp
  obtain ⟨i, hi, rfl⟩ := List.getElem_of_mem hp
  have := hn i hi
  rw [List.getD_eq_getElem?_getD, List.getElem?_eq_getElem hi] at this
  simpa using this
/-- What find answers. -/
def FdPost (w w' : World) (r : Option (List Nat)) (e : Ending) : Prop :=
  w.grownBy w' none ∧ match r with
    | none => e = .returned (.tuple #[.slice none 0 0, .bool false])
    | some k => ∃ y, e = .returned (.tuple #[y, .bool true]) ∧ Bytes w y k ∧ Whole0 y
set_option maxRecDepth 100000 in
set_option maxHeartbeats 1000000 in
theorem find_any (w : World) (b : Nat) (kv bv : Value) (ks : List (ByteArray × List Nat)) (id : ByteArray) (hb : w.heap[b]? = some (.cells #[kv, bv] 43 (0, 0))) (hK : KeysV w kv ks) (hl : ks.length ≤ 9223372036854775807) :
    Calls Tryd.prog 37 #[.pointer (some ⟨b, 0, none⟩), .string id] w fun e w' => FdPost w w' (fd ks id) e := by
  have c0 := cell_blk hb 0 rfl
  obtain ⟨a, g, o, c, rfl, h2, h3⟩ := hK
  obtain ⟨n, hn⟩ : ∃ n, n = ks.length := ⟨_, rfl⟩
  rw [← hn] at hl c0 h2
  have HN := Lib.hid hn
  have H2 := Lib.hid h2
  have H3 := Lib.hid h3
  obtain ⟨R, hR⟩ : ∃ R, R = fd ks id := ⟨_, rfl⟩
  have HR := Lib.hid hR
  rw [← hR]
  clear hb hn h2 h3 hR
  go_enter Tryd.func37, Tryd.ntmps37
  go_wp2
  go_loopw [13] (fun i wr => ∃ j : Nat, j ≤ n ∧ i = .int .i64 j ∧ w.grownBy wr none ∧ Hid (∀ q, q < j → (ks.getD q k0).1 ≠ id)) (fun i _ => n - (intOf i).toNat)
  case atStart => exact ⟨0, by omega, rfl, grown_refl _ _, Lib.hid (fun q hq => absurd hq (Nat.not_lt_zero _))⟩
  case round =>
    obtain ⟨j, hj, rfl, hg, hq⟩ := hrel
    have HG := Lib.hid hg
    by_cases hjn : j < n
    · obtain ⟨rfl, hgl⟩ := H2.out (by omega)
      obtain ⟨y, e0, e1, e2, e3⟩ := H3.out j (by rw [← HN.out]; exact hjn)
      have eg : ∀ o, wr.cell? ⟨g, o, none⟩ = w.cell? ⟨g, o, none⟩ := fun o => World.cell?_of_block (hg.block g hgl (by simp))
      have HB := Lib.hid e2
      have H0 := Lib.hid e3
      obtain ⟨_, ya, _, _, yc, rfl, _⟩ := e2
      rw [← eg] at e0 e1
      obtain ⟨I, hI⟩ : ∃ I, I = (ks.getD j k0).1 := ⟨_, rfl⟩
      obtain ⟨yl, hyl⟩ : ∃ yl, yl = (ks.getD j k0).2.length := ⟨_, rfl⟩
      rw [← hI] at e0
      rw [← hyl] at e1 HB H0
      have hgw : g < wr.heap.size := Nat.lt_of_lt_of_le hgl hg.size
      have HI := Lib.hid hI
      have HYl := Lib.hid hyl
      clear eg e3 hI hyl hg
      by_cases hid : I = id
      · subst hid
        have hbe : (I.toList == I.toList) = true := beq_self_eq_true _
        go_wp2
        go_returns
        refine ⟨grown_trans HG.out (World.grownBy_alloc _ _ _), ?_⟩
        rw [HR.out, fd_at (by rw [← HN.out]; exact hjn) HI.out.symm hq.out]
        exact ⟨_, rfl, HB.out, H0.out⟩
      · have hbe : (I.toList == id.toList) = false := by rw [← kBeq]; exact decide_eq_false hid
        have HId := Lib.hid hid
        go_wp2
        go_roundw
        case rel => exact ⟨j + 1, by omega, by go_num, grown_trans HG.out (World.grownBy_alloc _ _ _), Lib.hid (fun q hq' => by
          by_cases e : q = j
          · subst e; rw [← HI.out]; exact HId.out
          · exact hq.out q (by omega))⟩
        case measure => simp [intOf]; omega
    · obtain rfl : j = n := by omega
      clear hjn
      go_wp2
      go_returns
      refine ⟨HG.out, ?_⟩
      rw [HR.out, fd_none (fun q hq' => hq.out q (by rw [HN.out]; exact hq'))]
      rfl
set_option maxRecDepth 100000 in
set_option maxHeartbeats 400000 in
theorem refHas_any (w : World) (b : Nat) (kv bv : Value) (ks : List (ByteArray × List Nat)) (id : ByteArray) (hb : w.heap[b]? = some (.cells #[kv, bv] 43 (0, 0))) (hK : KeysV w kv ks) (hl : ks.length ≤ 9223372036854775807) :
    Calls Tryd.prog 52 #[.pointer (some ⟨b, 0, none⟩), .string id] w fun e w' => e = .returned (.bool (fd ks id).isSome) ∧ w.grownBy w' none := by
  have hF := find_any w b kv bv ks id hb hK hl
  clear hb hK hl
  cases hr : fd ks id with
  | none =>
    rw [hr] at hF
    have HF := Lib.hid hF
    clear hF hr
    go_enter Tryd.func52, Tryd.ntmps52
    go_wp2_with (go_at_call 37; refine HF.out.mono ?_; rintro e w1 ⟨hg1, he⟩; obtain rfl := he; have G1 := Lib.hid hg1; clear hg1)
    go_ret
    exact ⟨rfl, G1.out⟩
  | some k =>
    rw [hr] at hF
    have HF := Lib.hid hF
    clear hF hr
    go_enter Tryd.func52, Tryd.ntmps52
    go_wp2_with (go_at_call 37; refine HF.out.mono ?_; rintro e w1 ⟨hg1, y, rfl, _, _⟩; have G1 := Lib.hid hg1; clear hg1)
    go_ret
    exact ⟨rfl, G1.out⟩
/-- What is asked of a key and a domain: the error's number. -/
def askE (ks : List (ByteArray × List Nat)) (id dom : ByteArray) (m : List Nat) : Nat := if fd ks id = none then 10 else fErr (strL dom) [m]
set_option maxRecDepth 100000 in
set_option maxHeartbeats 400000 in
theorem asked_any (w : World) (b : Nat) (kv bv : Value) (ks : List (ByteArray × List Nat)) (id dom : ByteArray) (hd : dom.size ≤ 1000) (va : Option Addr) (n vc : Nat) (m : List Nat) (hB : Bytes w (.slice va n vc) m) (hB0 : Whole0 (.slice va n vc)) (hb : w.heap[b]? = some (.cells #[kv, bv] 43 (0, 0))) (hK : KeysV w kv ks) (hl : ks.length ≤ 9223372036854775807) :
    Calls Tryd.prog 40 #[.pointer (some ⟨b, 0, none⟩), .string id, .string dom, .slice va n vc] w fun e w' => e = .returned (.int .i64 (askE ks id dom m : Nat)) ∧ w.grownBy w' none := by
  have hH := refHas_any w b kv bv ks id hb hK hl
  unfold askE
  cases hr : fd ks id with
  | none =>
    rw [hr] at hH
    have HH := Lib.hid hH
    rw [if_pos rfl]
    clear hH hr hb hK hl hB hB0
    go_enter Tryd.func40, Tryd.ntmps40
    go_wp2_with (go_at_call 52; refine HH.out.mono ?_; rintro e w1 ⟨rfl, hg1⟩; have G1 := Lib.hid hg1; clear hg1)
    go_ret
    exact ⟨rfl, G1.out⟩
  | some k =>
    rw [hr] at hH
    have HH := Lib.hid hH
    rw [if_neg (by simp)]
    obtain ⟨N, hN⟩ : ∃ N, N = fErr (strL dom) [m] := ⟨_, rfl⟩
    have HFr : Hid (∀ W g, w.grownBy W none → W.heap[g]? = some (.cells #[.slice va n vc] 22 (0, 0)) → Calls Tryd.prog 20 #[.string dom, .slice (some ⟨g, 0, none⟩) 1 1] W fun e w' => (∃ fa fn fc, e = .returned (.tuple #[.slice fa fn fc, .int .i64 (N : Int)])) ∧ W.grownBy w' none) := Lib.hid (fun W g hW hg => by
      by_cases hf : fErr (strL dom) [m] = 0
      · rw [hN, hf]
        exact (kFrame0 dom hd hg (hB.grown hW) hB0 hf).mono (fun e w' ⟨fa, fn, fc, h1, h2⟩ => ⟨⟨fa, fn, fc, h1⟩, h2⟩)
      · rw [hN]
        exact (kFrame1 dom hd hg (hB.grown hW) hB0 hf).mono (fun e w' ⟨h1, h2⟩ => ⟨⟨_, _, _, h1⟩, h2⟩))
    rw [← hN]
    clear hH hr hb hK hl hB hB0 hN
    go_enter Tryd.func40, Tryd.ntmps40
    go_wp2_with (first
      | (go_at_call 52; refine HH.out.mono ?_; rintro e w1 ⟨rfl, hg1⟩; have G1 := Lib.hid hg1; clear hg1)
      | (go_at_call 20; refine (HFr.out _ w1.heap.size (grown_alloc G1.out _) (alloc_at _ _)).mono ?_; rintro e w2 ⟨⟨fa, fn, fc, rfl⟩, hg2⟩; have G2 := Lib.hid (grown_trans (grown_alloc G1.out _) hg2); clear hg2))
    go_ret
    exact ⟨rfl, G2.out⟩
end Go.Proofs.YtgdnndapmcjoeaaDoor
namespace Go
theorem wpList_val {P : Program} {ops : Array Oper} {rest : List Oper} {o : Oper} {a : Act} {w : World} {Q : Exit → Act → World → Prop} (hgd : o.guard = none) {v : Value} {w' : World} (h : (execOp a.eval o).run P w = .ok (.value v) w') (k : wpList P ops Q rest (a.put o.dst v) w') : wpList P ops Q (o :: rest) a w :=
  wpList_plain hgd fun K hK => by
    unfold Oper.wp
    rw [h]
    exact hK _ _ k
end Go
namespace Go.Proofs.YtgdnndapmcjoeaaDoor
open Go.RowKit Go.Maps
set_option linter.unusedVariables false
def l0 : ByteArray × ByteArray × ByteArray := (⟨#[]⟩, ⟨#[]⟩, ⟨#[]⟩)
/-- Lines, one behind the other. -/
def LinesV (w : World) (v : Value) (bk : List (ByteArray × ByteArray × ByteArray)) : Prop :=
  ∃ (a : Option Addr) (g o c : Nat), v = .slice a bk.length c ∧ (0 < bk.length → a = some ⟨g, o, none⟩ ∧ g < w.heap.size) ∧ ∀ j, j < bk.length → w.cell? ⟨g, o + j * 3, none⟩ = some (.string (bk.getD j l0).1) ∧ w.cell? ⟨g, o + j * 3 + 1, none⟩ = some (.string (bk.getD j l0).2.1) ∧ w.cell? ⟨g, o + j * 3 + 2, none⟩ = some (.string (bk.getD j l0).2.2)
theorem LinesV.grown {w w' : World} {v : Value} {bk : List (ByteArray × ByteArray × ByteArray)} (h : LinesV w v bk) (hg : w.grownBy w' none) : LinesV w' v bk := by
  obtain ⟨a, g, o, c, h1, h2, h3⟩ := h
  refine ⟨a, g, o, c, h1, fun h => ⟨(h2 h).1, Nat.lt_of_lt_of_le (h2 h).2 hg.size⟩, fun j hj => ?_⟩
  obtain ⟨e1, e2, e3⟩ := h3 j hj
  have e : ∀ o, w'.cell? ⟨g, o, none⟩ = w.cell? ⟨g, o, none⟩ := fun o => World.cell?_of_block (hg.block g (h2 (by omega)).2 (by simp))
  exact ⟨by rw [e]; exact e1, by rw [e]; exact e2, by rw [e]; exact e3⟩
theorem eqLn (x y : Operand) (a1 a2 b1 b2 c1 c2 : ByteArray) (w : World) : (do eqGuard .eql 98 x y (.agg #[.string a1, .string b1, .string c1]) (.agg #[.string a2, .string b2, .string c2]); binOp .eql 98 (.agg #[.string a1, .string b1, .string c1]) (.agg #[.string a2, .string b2, .string c2]) : Sem Value).run Tryd.prog w = .ok (.bool (decide ((a1, b1, c1) = (a2, b2, c2)))) w := by
  have h : ∀ {s t : ByteArray}, s.toList = t.toList ↔ s = t := fun {s t} => ⟨fun h => kStr (by
    have := str_beq s t
    rw [h, beq_self_eq_true] at this
    exact of_decide_eq_true this.symm), fun h => by rw [h]⟩
  simp [go_sem]
  by_cases e1 : a1 = a2 <;> by_cases e2 : b1 = b2 <;> by_cases e3 : c1 = c2 <;> simp [h, e1, e2, e3]
theorem eqLn_val {o : Oper} {a : Act} {w : World} {r : TypeId} {x y : Operand} {a1 a2 b1 b2 c1 c2 : ByteArray} (q : Bool) (hq : decide ((a1, b1, c1) = (a2, b2, c2)) = q) (ho : o.op = .binOp .eql 98 x y r) (hx : a.eval x = .agg #[.string a1, .string b1, .string c1]) (hy : a.eval y = .agg #[.string a2, .string b2, .string c2]) : (execOp a.eval o).run Tryd.prog w = .ok (.value (.bool q)) w := by
  have h := eqLn x y a1 a2 b1 b2 c1 c2 w
  rw [hq] at h
  simp only [execOp, ho, hx, hy]
  rw [Sem.run_bind, h]
  simp [Result.andThen, Sem.run_pure]
set_option maxRecDepth 100000 in
set_option maxHeartbeats 1000000 in
theorem inBook_any (w : World) (b : Nat) (kv bv : Value) (bk : List (ByteArray × ByteArray × ByteArray)) (x y z : ByteArray) (hb : w.heap[b]? = some (.cells #[kv, bv] 43 (0, 0))) (hK : LinesV w bv bk) (hl : bk.length ≤ 9223372036854775807) :
    Calls Tryd.prog 41 #[.pointer (some ⟨b, 0, none⟩), .agg #[.string x, .string y, .string z]] w fun e w' => e = .returned (.bool (decide ((x, y, z) ∈ bk))) ∧ w.grownBy w' none := by
  obtain ⟨w0, hw0⟩ : ∃ w0, w0 = w.alloc (.cells #[.string x, .string y, .string z] 98) := ⟨_, rfl⟩
  have HW0 := Lib.hid hw0
  have hg0 : w.grownBy w0 none := by rw [hw0]; exact World.grownBy_alloc _ _ _
  have HG0 := Lib.hid hg0
  have HBx : Hid (w0.heap[w.heap.size]? = some (.cells #[.string x, .string y, .string z] 98 (0, 0))) := Lib.hid (by rw [hw0]; exact alloc_at _ _)
  have hb0 : w0.heap[b]? = some (.cells #[kv, bv] 43 (0, 0)) := (hg0.block b (blk_lt hb) (by simp)).trans hb
  have c1 := cell_blk hb0 1 rfl
  obtain ⟨a, g, o, c, rfl, h2, h3⟩ := hK.grown hg0
  obtain ⟨n, hn⟩ : ∃ n, n = bk.length := ⟨_, rfl⟩
  rw [← hn] at hl c1 h2
  have HN := Lib.hid hn
  have H2 := Lib.hid h2
  have H3 := Lib.hid h3
  have c1' : (w.alloc (.cells #[.string x, .string y, .string z] 98)).cell? ⟨b, 1, none⟩ = some (.slice a n c) := by rw [← hw0]; exact c1
  obtain ⟨R, hR⟩ : ∃ R, R = decide ((x, y, z) ∈ bk) := ⟨_, rfl⟩
  have HR := Lib.hid hR
  rw [← hR]
  clear hb hn h2 h3 hR hw0 hg0 hb0 hK c1
  go_enter Tryd.func41, Tryd.ntmps41
  go_wp2
  rw [← HW0.out]
  go_loopw [12] (fun i wr => ∃ j : Nat, j ≤ n ∧ i = .int .i64 j ∧ w0.grownBy wr none ∧ Hid (∀ q, q < j → bk.getD q l0 ≠ (x, y, z))) (fun i _ => n - (intOf i).toNat)
  case atStart => exact ⟨0, by omega, rfl, grown_refl _ _, Lib.hid (fun q hq => absurd hq (Nat.not_lt_zero _))⟩
  case round =>
    clear c1'
    obtain ⟨j, hj, rfl, hg, hq⟩ := hrel
    have HG := Lib.hid hg
    have b1 := (hg.block _ (blk_lt HBx.out) (by simp)).trans HBx.out
    by_cases hjn : j < n
    · obtain ⟨rfl, hgl⟩ := H2.out (by omega)
      obtain ⟨e0, e1, e2⟩ := H3.out j (by rw [← HN.out]; exact hjn)
      have eg : ∀ o, wr.cell? ⟨g, o, none⟩ = w0.cell? ⟨g, o, none⟩ := fun o => World.cell?_of_block (hg.block g hgl (by simp))
      rw [← eg] at e0 e1 e2
      obtain ⟨L, hL⟩ : ∃ L, L = bk.getD j l0 := ⟨_, rfl⟩
      rw [← hL] at e0 e1 e2
      have HL := Lib.hid hL
      obtain ⟨l1, l2, l3⟩ := L
      have f0 : wr.cell? ⟨w.heap.size, 0, none⟩ = some (.string x) := cell_blk b1 0 rfl
      have f1 : wr.cell? ⟨w.heap.size, 1, none⟩ = some (.string y) := cell_blk b1 1 rfl
      have f2 : wr.cell? ⟨w.heap.size, 2, none⟩ = some (.string z) := cell_blk b1 2 rfl
      dsimp only at e0 e1 e2
      have hgw : g < wr.heap.size := Nat.lt_of_lt_of_le hgl hg.size
      have hbw : w.heap.size < wr.heap.size := blk_lt b1
      clear eg hL hg b1
      cases hq1 : decide ((l1, l2, l3) = (x, y, z)) with
      | true =>
        have HQ := Lib.hid hq1
        clear hq1
        go_wp2_with (refine wpList_val (by rfl) (eqLn_val (a1 := l1) (b1 := l2) (c1 := l3) (a2 := x) (b2 := y) (c2 := z) true HQ.out (by rfl) (by rfl) (by rfl)) ?_)
        go_ret
        refine ⟨?_, grown_trans HG0.out (grown_trans HG.out (World.grownBy_alloc _ _ _))⟩
        have hm : (x, y, z) ∈ bk := by
          rw [← of_decide_eq_true HQ.out, HL.out, List.getD_eq_getElem?_getD, List.getElem?_eq_getElem (by rw [← HN.out]; exact hjn)]
          exact List.getElem_mem _
        rw [HR.out, decide_eq_true hm]
        rfl
      | false =>
        have HQ := Lib.hid hq1
        clear hq1
        go_wp2_with (refine wpList_val (by rfl) (eqLn_val (a1 := l1) (b1 := l2) (c1 := l3) (a2 := x) (b2 := y) (c2 := z) false HQ.out (by rfl) (by rfl) (by rfl)) ?_)
        go_roundw
        case rel => exact ⟨j + 1, by omega, by go_num, grown_trans HG.out (World.grownBy_alloc _ _ _), Lib.hid (fun q hq' => by
          by_cases e : q = j
          · subst e; rw [← HL.out]; exact of_decide_eq_false HQ.out
          · exact hq.out q (by omega))⟩
        case measure => simp [intOf]; omega
    · obtain rfl : j = n := by omega
      clear hjn b1
      go_wp2
      go_ret
      refine ⟨?_, grown_trans HG0.out HG.out⟩
      have hm : ¬ (x, y, z) ∈ bk := fun hm => by
        obtain ⟨i, hi, he⟩ := List.getElem_of_mem hm
        refine hq.out i (by rw [HN.out]; exact hi) ?_
        rw [List.getD_eq_getElem?_getD, List.getElem?_eq_getElem hi]
        exact he
      rw [HR.out, decide_eq_false hm]
      rfl
end Go.Proofs.YtgdnndapmcjoeaaDoor
