import Derived.Test.YtgdnndapmcjoeaaDoorKd10
import Derived.Test.YtgdnndapmcjoeaaDoorKd38
namespace Go.Proofs.YtgdnndapmcjoeaaDoor
open Go.RowKit Go.Maps
set_option linter.unusedVariables false
section
variable {P : Program} {a : Act} {o : Oper} {w : World}
theorem kfield_val {t : TypeId} {x : Operand} {k : Nat} {p v : Value} (ho : o.op = .fieldAddr t x k) (hx : a.eval x = p) (h : (Instr.fieldAt t p k).run P w = .ok v w) : (execOp a.eval o).run P w = .ok (.value v) w := by
  simp [execOp, ho, hx, h, Result.andThen]
theorem kload_val {t : TypeId} {x : Operand} {p v : Value} (ho : o.op = .load t x) (hx : a.eval x = p) (h : (Instr.loadAt t p).run P w = .ok v w) : (execOp a.eval o).run P w = .ok (.value v) w := by
  simp [execOp, ho, hx, h, Result.andThen]
end
section
variable {a : Act} {us : Nat → Value} {D : List Nat} {d : Nat}
theorem kfill_nil : fill a [] us = a := by
  obtain ⟨⟨l⟩, e⟩ := a
  unfold fill
  congr 1
  congr 1
  refine List.ext_getElem (by simp) fun i h1 h2 => ?_
  simp
theorem kfill_cons : fill a (d :: D) us = (fill a D us).put (some d) (us d) := by
  obtain ⟨⟨l⟩, e⟩ := a
  show (⟨_, e⟩ : Act) = ⟨((l.mapIdx fun k x => if D.contains k then us k else x).toArray).setIfInBounds d (us d), e⟩
  congr 1
  rw [List.setIfInBounds_toArray]
  congr 1
  refine List.ext_getElem (by simp only [List.length_set, List.length_mapIdx]) fun i h1 h2 => ?_
  simp only [List.getElem_set, List.getElem_mapIdx, List.contains_cons]
  by_cases hi : d = i
  · subst hi; simp
  · rw [if_neg hi]
    have : (i == d) = false := by simp; exact fun h => hi h.symm
    rw [this, Bool.false_or]
end
def kRegions : Code → List Code
  | .seq a b => kRegions a ++ kRegions b
  | .cond _ a b => kRegions a ++ kRegions b
  | .block _ c => kRegions c
  | .loop c => kRegions c
  | .scope c => kRegions c
  | .region i o d => [.region i o d]
  | _ => []
def kRegion (c : Option Code) (k : Nat) : Code := (((c.map kRegions).getD []).find? fun r => match r with | .region i _ _ => i == k | _ => false).getD .skip
end Go.Proofs.YtgdnndapmcjoeaaDoor
namespace Go.Proofs.YtgdnndapmcjoeaaDoor
open Go.RowKit Go.Maps
set_option linter.unusedVariables false
theorem idK_apart {p q : Nat} (hp : p < 3) (hq : q < 3) (h : idK p = idK q) : p = q := by
  obtain ⟨h1, h2, h3⟩ : idK 0 ≠ idK 1 ∧ idK 0 ≠ idK 2 ∧ idK 1 ≠ idK 2 := ids_apart
  obtain rfl | rfl | rfl : p = 0 ∨ p = 1 ∨ p = 2 := by omega
  all_goals obtain rfl | rfl | rfl : q = 0 ∨ q = 1 ∨ q = 2 := by omega
  all_goals first
    | rfl
    | (with_reducible exact absurd h h1)
    | (with_reducible exact absurd h h2)
    | (with_reducible exact absurd h h3)
    | (with_reducible exact absurd h.symm h1)
    | (with_reducible exact absurd h.symm h2)
    | (with_reducible exact absurd h.symm h3)
theorem idK_size (q : Nat) : (idK q).size ≤ 1000 := by unfold idK; rw [id_size]; decide
theorem rr_none : ∀ (j q : Nat), j ≤ q → q < 3 → (RR j).get (idK q) = none
  | 0, _, _, _ => rfl
  | j + 1, q, h, hq => by
    show ((RR j).add (idK j) (rawL j)).get (idK q) = none
    rw [Rg.get_add_other (fun he => by have := idK_apart hq (by omega) he; omega)]
    exact rr_none j q (by omega) hq
theorem ks3 {s : Rg} (h : s.ks = (RR 3).ks) {q : Nat} (hq : q < 3) : s.get (idK q) = some (rawL q) := by
  have e : s.get (idK q) = (RR 3).get (idK q) := by unfold Rg.get; rw [h]
  rw [e]
  have ne : ∀ {p}, p < 3 → p ≠ q → idK q ≠ idK p := fun hp hn he => hn (idK_apart hp hq he.symm)
  show (((RR 2).add (idK 2) (rawL 2)).get (idK q)) = _
  by_cases h2 : 2 = q
  · subst h2; exact Rg.get_add_same (rr_none 2 2 (by decide) (by decide))
  · rw [Rg.get_add_other (ne (by decide) h2)]
    show (((RR 1).add (idK 1) (rawL 1)).get (idK q)) = _
    by_cases h1 : 1 = q
    · subst h1; exact Rg.get_add_same (rr_none 1 1 (by decide) (by decide))
    · rw [Rg.get_add_other (ne (by decide) h1)]
      show ((Rg.none.add (idK 0) (rawL 0)).get (idK q)) = _
      by_cases h0 : 0 = q
      · subst h0; exact Rg.get_add_same rfl
      · omega
theorem recE3 {s : Rg} (h : s.ks = (RR 3).ks) {q : Nat} (hq : q < 3) (dom : ByteArray) (m : List Nat) : recE s (idK q) dom m = fErr (strL dom) [m] := by
  unfold recE
  rw [ks3 h hq, if_neg (by simp)]
theorem mem_sign {s : Rg} {x y : ByteArray × ByteArray × ByteArray} : y ∈ (s.sign x).bk ↔ y ∈ s.bk ∨ y = x := by
  show y ∈ Rg.signB s.bk x ↔ _
  unfold Rg.signB
  split
  · rename_i h
    constructor
    · exact .inl
    · rintro (h1 | rfl)
      · exact h1
      · exact h
  · simp
/-- Whether this was signed by what comes. -/
def hit (n k : Nat) (d dom : ByteArray) (m msg : List Nat) : Bool := decide (n = k) && (decide (d = dom) && decide (strOf m = strOf msg))
/-- What lies while there is signed. -/
def C2 (w : World) (b b6 b7 : Nat) (gs : Nat → Nat) (k : Nat) (dom : ByteArray) (msg : List Nat) (was : Bool) (wr : World) : Prop :=
  ∃ (F : Nat → Prop) (s : Rg), PrG w F b s wr ∧ s.ks = (RR 3).ks ∧ was = decide ((idK k, dom, strOf msg) ∈ s.bk) ∧ wr.heap[b6]? = some (.cells (idsC 3) 56 (0, 0)) ∧ wr.heap[b7]? = some (.cells (rawC gs 3) 57 (0, 0)) ∧ ¬ F b6 ∧ ¬ F b7 ∧
    ∀ q, q < 3 → wr.heap[gs q]? = some (.cells (bytesV (rawL q)) 5 (0, 0)) ∧ ¬ F (gs q)
theorem C1.done {w wr : World} {b b6 b7 : Nat} (h : C1 w b b6 b7 3 wr) (k : Nat) (dom : ByteArray) (msg : List Nat) : ∃ gs, C2 w b b6 b7 gs k dom msg false wr := by
  obtain ⟨F, gs, hP, k6, k7, hne, l6, l7, n6, n7, hq⟩ := h
  exact ⟨gs, F, RR 3, hP, rfl, by simp [RR, Rg.add_bk, Rg.none], k6, k7, n6, n7, fun q hq3 => ⟨(hq q hq3).1, (hq q hq3).2.1⟩⟩
section
variable {A : Nat → Addr} {w wr : World} {b b6 b7 k : Nat} {gs : Nat → Nat} {dom : ByteArray} {msg : List Nat} {was : Bool}
theorem C2.still (h : C2 w b b6 b7 gs k dom msg was wr) {w' : World} (hg : wr.grownBy w' none) : C2 w b b6 b7 gs k dom msg was w' := by
  obtain ⟨F, s, hP, hk, hw, k6, k7, n6, n7, hq⟩ := h
  exact ⟨F, s, hP.still hg, hk, hw, (hg.block _ (blk_lt k6) (by simp)).trans k6, (hg.block _ (blk_lt k7) (by simp)).trans k7, n6, n7, fun q hq3 => ⟨(hg.block _ (blk_lt (hq q hq3).1) (by simp)).trans (hq q hq3).1, (hq q hq3).2⟩⟩
theorem C2.base (h : C2 w b b6 b7 gs k dom msg was wr) : w.grownBy wr none := by obtain ⟨F, s, hP, _⟩ := h; exact hP.base
theorem C2.id (h : C2 w b b6 b7 gs k dom msg was wr) {q : Nat} (hq : q < 3) : wr.cell? ⟨b6, q, none⟩ = some (.string (idK q)) := by
  obtain ⟨F, s, hP, hk, hw, k6, _⟩ := h
  refine cell_blk k6 q ?_
  obtain rfl | rfl | rfl : q = 0 ∨ q = 1 ∨ q = 2 := by omega
  all_goals rfl
/-- The same, with a block that isn't the ring's. -/
def C2z (w : World) (b b6 b7 : Nat) (gs : Nat → Nat) (k : Nat) (dom : ByteArray) (msg : List Nat) (z : Nat) (o : Obj) (was : Bool) (wr : World) : Prop :=
  ∃ (F : Nat → Prop) (s : Rg), PrG w F b s wr ∧ s.ks = (RR 3).ks ∧ was = decide ((idK k, dom, strOf msg) ∈ s.bk) ∧ wr.heap[b6]? = some (.cells (idsC 3) 56 (0, 0)) ∧ wr.heap[b7]? = some (.cells (rawC gs 3) 57 (0, 0)) ∧ ¬ F b6 ∧ ¬ F b7 ∧
    (∀ q, q < 3 → wr.heap[gs q]? = some (.cells (bytesV (rawL q)) 5 (0, 0)) ∧ ¬ F (gs q)) ∧ ¬ F z ∧ wr.heap[z]? = some o
theorem C2z.c2 {z : Nat} {o : Obj} (h : C2z w b b6 b7 gs k dom msg z o was wr) : C2 w b b6 b7 gs k dom msg was wr := by
  obtain ⟨F, s, hP, hk, hw, k6, k7, n6, n7, hq, _⟩ := h
  exact ⟨F, s, hP, hk, hw, k6, k7, n6, n7, hq⟩
theorem C2z.blk {z : Nat} {o : Obj} (h : C2z w b b6 b7 gs k dom msg z o was wr) : wr.heap[z]? = some o := by
  obtain ⟨F, s, hP, hk, hw, k6, k7, n6, n7, hq, _, ho⟩ := h
  exact ho
theorem C2.with (h : C2 w b b6 b7 gs k dom msg was wr) {z : Nat} {o : Obj} (hz : wr.heap.size ≤ z) {w' : World} (hg : wr.grownBy w' none) (ho : w'.heap[z]? = some o) : C2z w b b6 b7 gs k dom msg z o was w' := by
  obtain ⟨F, s, hP, hk, hw, k6, k7, n6, n7, hq⟩ := h
  exact ⟨F, s, hP.still hg, hk, hw, (hg.block _ (blk_lt k6) (by simp)).trans k6, (hg.block _ (blk_lt k7) (by simp)).trans k7, n6, n7, fun q hq3 => ⟨(hg.block _ (blk_lt (hq q hq3).1) (by simp)).trans (hq q hq3).1, (hq q hq3).2⟩, fun hf => (by have := (hP.own _ hf).2; omega), ho⟩
theorem C2z.still {z : Nat} {o : Obj} (h : C2z w b b6 b7 gs k dom msg z o was wr) {w' : World} (hg : wr.grownBy w' none) : C2z w b b6 b7 gs k dom msg z o was w' := by
  obtain ⟨F, s, hP, hk, hw, k6, k7, n6, n7, hq, nz, ho⟩ := h
  exact ⟨F, s, hP.still hg, hk, hw, (hg.block _ (blk_lt k6) (by simp)).trans k6, (hg.block _ (blk_lt k7) (by simp)).trans k7, n6, n7, fun q hq3 => ⟨(hg.block _ (blk_lt (hq q hq3).1) (by simp)).trans (hq q hq3).1, (hq q hq3).2⟩, nz, (hg.block _ (blk_lt ho) (by simp)).trans ho⟩
/-- Signed. -/
theorem C2z.sign {z : Nat} {o : Obj} (h : C2z w b b6 b7 gs k dom msg z o was wr) (hk3 : k < 3) (hE : AllErrs w A) (hL : Laid w) {n : Nat} (hn : n < 3) (d : ByteArray) (hd : d.size ≤ 1000) (va : Option Addr) (vc : Nat) (m : List Nat) (hml : m.length ≤ 100000) (hB : Bytes w (.slice va m.length vc) m) (hB0 : Whole0 (.slice va m.length vc)) (he : fErr (strL d) [m] = 0) :
    Calls Tryd.prog 19 #[.pointer (some ⟨b, 0, none⟩), .string (idK n), .string d, .slice va m.length vc] wr fun e w' => ∃ g, e = .returned (.tuple #[.slice (some ⟨g, 0, none⟩) 32 32, .nilIface]) ∧ C2z w b b6 b7 gs k dom msg z o (was || hit n k d dom m msg) w' := by
  obtain ⟨F, s, hP, hk, hw, k6, k7, n6, n7, hq, hbF, ho⟩ := h
  refine (pgSign hP hE hL (idK n) d (idK_size n) hd va vc m hml (fun W hW => hB.grown (hW.base hP.base (fun k hk => (hP.own k hk).1))) hB0).mono ?_
  rintro e w' (⟨h1, _⟩ | ⟨_, g, F', rfl, _, _, _, ht, hP'⟩)
  · rw [recE3 hk hn] at h1; exact absurd he h1
  · have hnot : ∀ {i}, i < wr.heap.size → ¬ F i → ¬ F' i := fun hi hn hf => hn (ht.mine _ hi hf)
    have stay : ∀ {i o}, wr.heap[i]? = some o → ¬ F i → w'.heap[i]? = some o := fun h hn => (ht.upto.block _ (blk_lt h) hn).trans h
    refine ⟨g, rfl, F', _, hP', hk, ?_, stay k6 n6, stay k7 n7, hnot (blk_lt k6) n6, hnot (blk_lt k7) n7, fun q hq3 => ⟨stay (hq q hq3).1 (hq q hq3).2, hnot (blk_lt (hq q hq3).1) (hq q hq3).2⟩, hnot (blk_lt ho) hbF, stay ho hbF⟩
    rw [hw]
    unfold hit
    rw [Bool.eq_iff_iff]
    simp only [Bool.or_eq_true, Bool.and_eq_true, decide_eq_true_eq, mem_sign, Prod.mk.injEq]
    constructor
    · rintro (h1 | ⟨h1, h2, h3⟩)
      · exact .inl h1
      · exact .inr ⟨by rw [h1], h2.symm, h3.symm⟩
    · rintro (h1 | ⟨h1, h2, h3⟩)
      · exact .inl h1
      · exact .inr ⟨(idK_apart hn hk3 h1.symm).symm ▸ rfl, h2.symm, h3.symm⟩
end
/-- The document's Frame of one part. -/
theorem kFrame0 {W : World} {g : Nat} {va : Option Addr} {n vc : Nat} {msg : List Nat} (dom : ByteArray) (hd : dom.size ≤ 1000) (hg : W.heap[g]? = some (.cells #[.slice va n vc] 22 (0, 0))) (hB : Bytes W (.slice va n vc) msg) (hB0 : Whole0 (.slice va n vc)) (hf : fErr (strL dom) [msg] = 0) :
    Calls Tryd.prog 20 #[.string dom, .slice (some ⟨g, 0, none⟩) 1 1] W fun e w' => ∃ fa fn fc, e = .returned (.tuple #[.slice fa fn fc, .int .i64 0]) ∧ W.grownBy w' none := by
  refine (refFrame_any dom [msg] (some ⟨g, 0, none⟩) g 0 1 1 rfl W (fun _ => ⟨rfl, blk_lt hg⟩) (one_part hg hB hB0) (by omega) (by decide)).mono ?_
  rintro e w' ⟨⟨v, rfl, h1, _⟩, hgr⟩
  obtain ⟨fa, _, fc, rfl, _⟩ := ownsRow_form (h1 hf).own
  exact ⟨fa, _, fc, by rw [hf]; rfl, hgr⟩
theorem kFrame1 {W : World} {g : Nat} {va : Option Addr} {n vc : Nat} {msg : List Nat} (dom : ByteArray) (hd : dom.size ≤ 1000) (hg : W.heap[g]? = some (.cells #[.slice va n vc] 22 (0, 0))) (hB : Bytes W (.slice va n vc) msg) (hB0 : Whole0 (.slice va n vc)) (hf : fErr (strL dom) [msg] ≠ 0) :
    Calls Tryd.prog 20 #[.string dom, .slice (some ⟨g, 0, none⟩) 1 1] W fun e w' => e = .returned (.tuple #[.slice none 0 0, .int .i64 (fErr (strL dom) [msg] : Nat)]) ∧ W.grownBy w' none := by
  refine (refFrame_any dom [msg] (some ⟨g, 0, none⟩) g 0 1 1 rfl W (fun _ => ⟨rfl, blk_lt hg⟩) (one_part hg hB hB0) (by omega) (by decide)).mono ?_
  rintro e w' ⟨⟨v, rfl, _, h2⟩, hgr⟩
  rw [h2 hf]
  exact ⟨rfl, hgr⟩
end Go.Proofs.YtgdnndapmcjoeaaDoor
