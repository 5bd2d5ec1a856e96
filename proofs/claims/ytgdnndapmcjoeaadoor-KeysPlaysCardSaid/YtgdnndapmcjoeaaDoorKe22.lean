import Derived.Test.YtgdnndapmcjoeaaDoorKe03
import Derived.Test.YtgdnndapmcjoeaaDoorKe04
import Derived.Test.YtgdnndapmcjoeaaDoorKe21
namespace Go.Proofs.YtgdnndapmcjoeaaDoor
open Go.RowKit
set_option linter.unusedVariables false
/-- The slice v has just the values xs. -/
def Vals (w : World) (v : Value) (xs : List Value) : Prop :=
  ∃ (a : Option Addr) (sb so c : Nat), v = .slice a xs.length c ∧ xs.length ≤ c ∧ (0 < xs.length → a = some ⟨sb, so, none⟩ ∧ sb < w.heap.size) ∧ ∀ j u, xs[j]? = some u → w.cell? ⟨sb, so + j, none⟩ = some u
theorem Vals.grown {w w' : World} {v : Value} {xs : List Value} (h : Vals w v xs) (hg : w.grownBy w' none) : Vals w' v xs := by
  obtain ⟨a, sb, so, c, h1, h2, h3, h4⟩ := h
  refine ⟨a, sb, so, c, h1, h2, fun hp => ⟨(h3 hp).1, Nat.lt_of_lt_of_le (h3 hp).2 hg.size⟩, fun j u hj => ?_⟩
  have hjl := (List.getElem?_eq_some_iff.1 hj).1
  rw [World.cell?_of_block (hg.block sb (h3 (by omega)).2 (by simp))]
  exact h4 j u hj
theorem Vals.own {w : World} {base : Nat} {e : TypeId} {v : Value} {n : Nat} {xs : List Value} (h : w.ownsRow base e 1 v n xs) : Vals w v xs := by
  have hn := h.1
  rw [Nat.mul_one] at hn
  subst hn
  obtain ⟨a, g, c, rfl, h1, h2, h3, h4⟩ := ownsRow_form h
  exact ⟨a, g, 0, c, rfl, h1, fun hp => ⟨(h3 hp).1, (h3 hp).2.2⟩, fun j u hj => by
    have hjl := (List.getElem?_eq_some_iff.1 hj).1
    rw [Nat.zero_add, h4 j hjl, hj]⟩
theorem Vals.cap {w : World} {a : Option Addr} {n c : Nat} {xs : List Value} (h : Vals w (.slice a n c) xs) : n = xs.length ∧ n ≤ c := by
  obtain ⟨_, _, _, _, he, hc, _⟩ := h
  cases he
  exact ⟨rfl, hc⟩
theorem Vals.from {w : World} {a : Option Addr} {n c : Nat} {xs : List Value} (hB : Vals w (.slice a n c) xs) (k : Nat) (hk : k ≤ n) : Vals w (.slice (subA a k c) (n - k) (c - k)) (xs.drop k) := by
  obtain ⟨a1, sb, so, c1, he, hc, ha, hcell⟩ := hB
  cases he
  refine ⟨subA a k c, sb, so + k, c - k, by rw [List.length_drop], by rw [List.length_drop]; omega, fun hpos => ?_, fun j u hj => ?_⟩
  · rw [List.length_drop] at hpos
    obtain ⟨e, hlt⟩ := ha (by omega)
    refine ⟨?_, hlt⟩
    rw [subA, if_neg (by omega), e, Option.map_some, addr_addO]
  · rw [List.getElem?_drop] at hj
    have := hcell (k + j) u hj
    rw [← Nat.add_assoc] at this
    exact this
theorem Vals.lit {w : World} {g : Nat} {t : TypeId} {fr : Nat × Nat} {xs : List Value} (h : w.heap[g]? = some (.cells xs.toArray t fr)) : Vals w (.slice (some ⟨g, 0, none⟩) xs.length xs.length) xs :=
  ⟨_, g, 0, _, rfl, Nat.le_refl _, fun _ => ⟨rfl, blk_lt h⟩, fun j u hj => by rw [Nat.zero_add]; exact cell_blk h j (by simpa using hj)⟩
theorem Vals.nil (w : World) : Vals w (.slice none 0 0) [] := ⟨none, 0, 0, 0, rfl, Nat.le_refl _, fun h => absurd h (Nat.lt_irrefl _), fun j u hj => by simp at hj⟩
/-- The values are slices with just these bytes. -/
def Each (w : World) : List Value → List (List Nat) → Prop
  | [], [] => True
  | v :: vs, l :: ls => (Bytes w v l ∧ Whole0 v) ∧ Each w vs ls
  | _, _ => False
theorem Each.grown {w w' : World} : ∀ {xs : List Value} {L : List (List Nat)}, Each w xs L → w.grownBy w' none → Each w' xs L
  | [], [], _, _ => trivial
  | _ :: _, _ :: _, h, hg => ⟨⟨h.1.1.grown hg, h.1.2⟩, h.2.grown hg⟩
theorem Each.len {w : World} : ∀ {xs : List Value} {L : List (List Nat)}, Each w xs L → xs.length = L.length
  | [], [], _ => rfl
  | _ :: _, _ :: _, h => by rw [List.length_cons, List.length_cons, h.2.len]
theorem Each.append {w : World} : ∀ {xs ys : List Value} {L M : List (List Nat)}, Each w xs L → Each w ys M → Each w (xs ++ ys) (L ++ M)
  | [], _, [], _, _, h => h
  | _ :: _, _, _ :: _, _, h, h2 => ⟨h.1, h.2.append h2⟩
theorem Each.take {w : World} : ∀ {xs : List Value} {L : List (List Nat)} (k : Nat), Each w xs L → Each w (xs.take k) (L.take k)
  | _, _, 0, _ => by simp [Each]
  | [], [], _ + 1, _ => trivial
  | _ :: _, _ :: _, k + 1, h => ⟨h.1, h.2.take k⟩
theorem Each.drop {w : World} : ∀ {xs : List Value} {L : List (List Nat)} (k : Nat), Each w xs L → Each w (xs.drop k) (L.drop k)
  | _, _, 0, h => h
  | [], [], _ + 1, _ => trivial
  | _ :: _, _ :: _, k + 1, h => h.2.drop k
theorem Each.at_ {w : World} : ∀ {xs : List Value} {L : List (List Nat)} (k : Nat), Each w xs L → k < L.length → ∃ v, xs[k]? = some v ∧ Bytes w v (L.getD k []) ∧ Whole0 v
  | [], [], _, _, hk => absurd hk (Nat.not_lt_zero _)
  | v :: _, _ :: _, 0, h, _ => ⟨v, rfl, h.1.1, h.1.2⟩
  | _ :: _, _ :: _, k + 1, h, hk => by
    obtain ⟨v, h1, h2, h3⟩ := h.2.at_ k (by simpa using hk)
    exact ⟨v, by simpa using h1, by simpa using h2, h3⟩
theorem Each.parts {w : World} {a : Option Addr} {n c : Nat} {xs : List Value} {L : List (List Nat)} (hV : Vals w (.slice a n c) xs) (h : Each w xs L) : ∃ sb so, L.length = n ∧ (0 < n → a = some ⟨sb, so, none⟩ ∧ sb < w.heap.size) ∧ PartsW w sb so L := by
  obtain ⟨a1, sb, so, c1, he, hc, ha, hcell⟩ := hV
  cases he
  have hl := h.len
  refine ⟨sb, so, hl.symm, ha, fun i hi => ?_⟩
  obtain ⟨v, h1, h2, h3⟩ := h.at_ i hi
  exact ⟨v, hcell i v h1, h2, h3⟩
section
variable {P : Program}
end
theorem elemLL : Tryd.prog.underlying 45 = some (.slice (Tryd.prog.elem 45)) := by kernel_rfl
theorem sizeLL (w : World) : (sizeOf (Tryd.prog.elem 45)).run Tryd.prog w = .ok 1 w := by kernel_rfl
/-- The walk's own words for pieces of slices of slices. -/
@[go_sem high] theorem run_fromL (w : World) (a : Option Addr) (n c : Nat) (i : Int) (h0 : 0 ≤ i) (h1 : i ≤ n) :
    (Instr.slice 45 (.slice a n c) (some (.int .i64 i)) none none).run Tryd.prog w = .ok (.slice (subA a i.toNat c) (n - i.toNat) (c - i.toNat)) w := by
  rw [run_slice_l w 45 a n c elemLL .i64 i h0 h1, sizeLL]
  simp only [Result.andThen, sliced, Nat.mul_one, subA]
@[go_sem high] theorem run_toL (w : World) (a : Option Addr) (n c : Nat) (i : Int) (h0 : 0 ≤ i) (h1 : i ≤ c) :
    (Instr.slice 45 (.slice a n c) none (some (.int .i64 i)) none).run Tryd.prog w = .ok (.slice a i.toNat c) w := by
  have hadd : ∀ x : Addr, x.add 0 = x := fun x => by unfold Addr.add; split <;> simp_all
  rw [run_slice_h w 45 a n c elemLL .i64 i h0 h1, sizeLL]
  simp only [Result.andThen, sliced, Nat.mul_one, Nat.sub_zero]
  congr 2
  split
  · rfl
  · cases a
    · rfl
    · simp [hadd]
end Go.Proofs.YtgdnndapmcjoeaaDoor
namespace Go.Proofs.YtgdnndapmcjoeaaDoor
open Go.RowKit
set_option linter.unusedVariables false
/-- The second world grew out of the first; of the first's blocks only those of O may have changed. -/
structure Upto (O : Nat → Prop) (w w' : World) : Prop where
  os : w'.os = w.os
  tape : w'.tape = w.tape
  output : w'.output = w.output
  size : w.heap.size ≤ w'.heap.size
  block : ∀ k, k < w.heap.size → ¬ O k → w'.heap[k]? = w.heap[k]?
theorem Upto.refl (O : Nat → Prop) (w : World) : Upto O w w := ⟨rfl, rfl, rfl, Nat.le_refl _, fun _ _ _ => rfl⟩
theorem Upto.of_grown {w w' : World} (O : Nat → Prop) (h : w.grownBy w' none) : Upto O w w' := ⟨h.os, h.tape, h.output, h.size, fun k hk _ => h.block k hk (by simp)⟩
theorem Upto.of_row {w w' : World} {O : Nat → Prop} {row : Option Nat} (h : w.grownBy w' row) (hr : ∀ k, row = some k → O k ∨ w.heap.size ≤ k) : Upto O w w' :=
  ⟨h.os, h.tape, h.output, h.size, fun k hk ho => h.block k hk (fun e => by
    rcases hr k e.symm with h1 | h1
    · exact ho h1
    · omega)⟩
/-- What changed is of O, or came later. -/
theorem Upto.trans {a b c : World} {O O2 : Nat → Prop} (h : Upto O a b) (h2 : Upto O2 b c) (hO : ∀ k, k < a.heap.size → O2 k → O k) : Upto O a c :=
  ⟨h2.os.trans h.os, h2.tape.trans h.tape, h2.output.trans h.output, Nat.le_trans h.size h2.size, fun k hk ho => (h2.block k (Nat.lt_of_lt_of_le hk h.size) (fun h3 => ho (hO k hk h3))).trans (h.block k hk ho)⟩
theorem Upto.mono {a b : World} {O O2 : Nat → Prop} (h : Upto O a b) (hO : ∀ k, k < a.heap.size → O k → O2 k) : Upto O2 a b :=
  ⟨h.os, h.tape, h.output, h.size, fun k hk ho => h.block k hk (fun h2 => ho (hO k hk h2))⟩
theorem Upto.grown {a b : World} {O : Nat → Prop} (h : Upto O a b) (hO : ∀ k, k < a.heap.size → ¬ O k) : a.grownBy b none :=
  ⟨h.os, h.tape, h.output, h.size, fun k hk _ => h.block k hk (hO k hk)⟩
theorem Upto.drew {a b : World} {O : Nat → Prop} (h : Upto O a b) : Upto O a b.drew := ⟨h.os, h.tape, h.output, h.size, h.block⟩
/-- The blocks of F stand as they stood. -/
structure Agree (F : Nat → Prop) (w w' : World) : Prop where
  size : w.heap.size ≤ w'.heap.size
  block : ∀ k, F k → w'.heap[k]? = w.heap[k]?
theorem Agree.refl (F : Nat → Prop) (w : World) : Agree F w w := ⟨Nat.le_refl _, fun _ _ => rfl⟩
theorem Agree.trans {F : Nat → Prop} {a b c : World} (h : Agree F a b) (h2 : Agree F b c) : Agree F a c := ⟨Nat.le_trans h.size h2.size, fun k hk => (h2.block k hk).trans (h.block k hk)⟩
theorem Agree.mono {F G : Nat → Prop} {a b : World} (h : Agree G a b) (hF : ∀ k, F k → G k) : Agree F a b := ⟨h.size, fun k hk => h.block k (hF k hk)⟩
/-- P is said of the blocks of F alone, which are there. -/
structure Sup (F : Nat → Prop) (w : World) (P : World → Prop) : Prop where
  lt : ∀ k, F k → k < w.heap.size
  holds : ∀ w', Agree F w w' → P w'
theorem Sup.now {F : Nat → Prop} {w : World} {P : World → Prop} (h : Sup F w P) : P w := h.holds w (Agree.refl F w)
theorem Sup.kept {F : Nat → Prop} {w w' : World} {P : World → Prop} (h : Sup F w P) (ha : Agree F w w') : Sup F w' P :=
  ⟨fun k hk => Nat.lt_of_lt_of_le (h.lt k hk) ha.size, fun w2 h2 => h.holds w2 (ha.trans h2)⟩
theorem Sup.agree {F O : Nat → Prop} {w w' : World} {P : World → Prop} (h : Sup F w P) (hu : Upto O w w') (hd : ∀ k, F k → ¬ O k) : Agree F w w' :=
  ⟨hu.size, fun k hk => hu.block k (h.lt k hk) (hd k hk)⟩
/-- Calls that change other blocks alone leave it. -/
theorem Sup.upto {F O : Nat → Prop} {w w' : World} {P : World → Prop} (h : Sup F w P) (hu : Upto O w w') (hd : ∀ k, F k → ¬ O k) : Sup F w' P := h.kept (h.agree hu hd)
theorem Sup.grown {F : Nat → Prop} {w w' : World} {P : World → Prop} (h : Sup F w P) (hg : w.grownBy w' none) : Sup F w' P := h.upto (Upto.of_grown (fun _ => False) hg) (fun _ _ h => h)
theorem Sup.mono {F G : Nat → Prop} {w : World} {P : World → Prop} (h : Sup F w P) (hF : ∀ k, F k → G k) (hG : ∀ k, G k → k < w.heap.size) : Sup G w P :=
  ⟨hG, fun w' ha => h.holds w' (ha.mono hF)⟩
theorem Sup.map {F : Nat → Prop} {w : World} {P Q : World → Prop} (h : Sup F w P) (hq : ∀ W, P W → Q W) : Sup F w Q := ⟨h.lt, fun w' ha => hq w' (h.holds w' ha)⟩
theorem Sup.and {F : Nat → Prop} {w : World} {P Q : World → Prop} (h : Sup F w P) (h2 : Sup F w Q) : Sup F w (fun W => P W ∧ Q W) := ⟨h.lt, fun w' ha => ⟨h.holds w' ha, h2.holds w' ha⟩⟩
/-- The block that a slice lies in; none's, if it is nil. -/
def At (v : Value) (k : Nat) : Prop := ∃ a n c, v = .slice (some a) n c ∧ a.block = k
end Go.Proofs.YtgdnndapmcjoeaaDoor
namespace Go.Proofs.YtgdnndapmcjoeaaDoor
open Go.RowKit
set_option linter.unusedVariables false
/-- F's blocks, and all of W0's. -/
def Or0 (W0 : World) (F : Nat → Prop) (k : Nat) : Prop := F k ∨ k < W0.heap.size
/-- P is said of the blocks of F, which came after W0, and of W0's, which stand as they stood. -/
structure Held (W0 w : World) (F : Nat → Prop) (P : World → Prop) : Prop where
  base : W0.grownBy w none
  own : ∀ k, F k → W0.heap.size ≤ k
  sup : Sup (Or0 W0 F) w P
/-- A call's growth: of what was there it turned blocks of F alone, and of what it holds now what was there was F's. -/
structure Turn (F F' : Nat → Prop) (w w' : World) : Prop where
  upto : Upto F w w'
  mine : ∀ k, k < w.heap.size → F' k → F k
/-- No block is of both. -/
def Apart (F G : Nat → Prop) : Prop := ∀ k, F k → ¬ G k
theorem Apart.symm {F G : Nat → Prop} (h : Apart F G) : Apart G F := fun k hg hf => h k hf hg
theorem Turn.refl (F : Nat → Prop) (w : World) : Turn F F w w := ⟨Upto.refl F w, fun _ _ h => h⟩
theorem Turn.trans {F F' F'' : Nat → Prop} {a b c : World} (h : Turn F F' a b) (k : Turn F' F'' b c) : Turn F F'' a c :=
  ⟨h.upto.trans k.upto (fun j hj hf => h.mine j hj hf), fun j hj hf => h.mine j hj (k.mine j (Nat.lt_of_lt_of_le hj h.upto.size) hf)⟩
theorem Turn.of_grown {F : Nat → Prop} {w w' : World} (h : w.grownBy w' none) : Turn F F w w' := ⟨Upto.of_grown F h, fun _ _ h => h⟩
theorem grown_join {a b c : World} (h : a.grownBy b none) (hg : b.grownBy c none) : a.grownBy c none :=
  ⟨hg.os.trans h.os, hg.tape.trans h.tape, hg.output.trans h.output, Nat.le_trans h.size hg.size, fun k hk _ => (hg.block k (Nat.lt_of_lt_of_le hk h.size) (by simp)).trans (h.block k hk (by simp))⟩
theorem Upto.base {W0 w w' : World} {F : Nat → Prop} (hb : W0.grownBy w none) (hF : ∀ k, F k → W0.heap.size ≤ k) (h : Upto F w w') : W0.grownBy w' none :=
  ⟨h.os.trans hb.os, h.tape.trans hb.tape, h.output.trans hb.output, Nat.le_trans hb.size h.size, fun k hk _ => (h.block k (Nat.lt_of_lt_of_le hk hb.size) (fun hf => by have := hF k hf; omega)).trans (hb.block k hk (by simp))⟩
section
variable {W0 w w' : World} {F F' G : Nat → Prop} {P Q : World → Prop}
theorem Held.now (h : Held W0 w F P) : P w := h.sup.now
theorem Held.lt (h : Held W0 w F P) {k : Nat} (hk : F k) : k < w.heap.size := h.sup.lt k (.inl hk)
theorem Held.map (h : Held W0 w F P) (hq : ∀ W, P W → Q W) : Held W0 w F Q := ⟨h.base, h.own, h.sup.map hq⟩
theorem Held.and (h : Held W0 w F P) (h2 : Held W0 w F Q) : Held W0 w F (fun W => P W ∧ Q W) := ⟨h.base, h.own, h.sup.and h2.sup⟩
/-- Another thing's call leaves it. -/
theorem Held.other (h : Held W0 w G Q) (hF : ∀ k, F k → W0.heap.size ≤ k) (ht : Turn F F' w w') (ha : Apart F G) : Held W0 w' G Q ∧ Apart F' G :=
  ⟨⟨ht.upto.base h.base hF, h.own, h.sup.upto ht.upto (fun k hk hf => by
    rcases hk with hg | hl
    · exact ha k hf hg
    · have := hF k hf; omega)⟩, fun k hf hg => ha k (ht.mine k (h.lt hg) hf) hg⟩
/-- A call that turns nothing leaves it. -/
theorem Held.grown (h : Held W0 w F P) (hg : w.grownBy w' none) : Held W0 w' F P := ⟨grown_join h.base hg, h.own, h.sup.grown hg⟩
/-- What stands still from here on is said of all that is there. -/
theorem Held.rest (h : Held W0 w F P) : Held w w (fun _ => False) P :=
  ⟨⟨rfl, rfl, rfl, Nat.le_refl _, fun _ _ _ => rfl⟩, fun _ h => h.elim, h.sup.mono (fun k hk => .inr (h.sup.lt k hk)) (fun k hk => by
    rcases hk with hk | hk
    · exact hk.elim
    · exact hk)⟩
end
end Go.Proofs.YtgdnndapmcjoeaaDoor
