import Derived.Test.YtihioekepflpiaaGreatDoorZb00
import Derived.Test.YtihioekepflpiaaGreatDoorZb01
import Derived.Test.YtihioekepflpiaaGreatDoorZb02
import Derived.Test.YtihioekepflpiaaGreatDoorZb15
import Derived.Test.YtihioekepflpiaaGreatDoorRows
import Derived.WalkKit
import Derived.WalkSpells
import Derived.WalkLawsBesides
import Derived.Deep.QuietTactic
import Derived.BigQuiet
import Derived.Laws.BitsAllLaws
import Derived.Lib.Hide
import Derived.Test.YtihioekepflpiaaGreatDoorChecked
set_option linter.unusedVariables false
set_option linter.unusedSimpArgs false
namespace Go.Proofs.YtihioekepflpiaaGreatDoor
open Go.RowKit
theorem getD_lt' {l : List Nat} (h : ∀ x ∈ l, x < 256) (k : Nat) : l.getD k 0 < 256 := by
  rw [List.getD_eq_getElem?_getD]
  cases e : l[k]? with
  | none => simp
  | some x => exact h x (List.mem_of_getElem? e)
end Go.Proofs.YtihioekepflpiaaGreatDoor
namespace Go.Proofs.YtihioekepflpiaaGreatDoor
open Go.RowKit
end Go.Proofs.YtihioekepflpiaaGreatDoor
namespace Go.Proofs.YtihioekepflpiaaGreatDoor
open Go.RowKit
end Go.Proofs.YtihioekepflpiaaGreatDoor
namespace Go.Proofs.YtihioekepflpiaaGreatDoor
open Go.RowKit
/-- Slices of bytes in a slice: each part's value. -/
def PartsW (w : World) (sb so : Nat) (parts : List (List Nat)) : Prop :=
  ∀ i, i < parts.length → ∃ v, w.cell? ⟨sb, so + i, none⟩ = some v ∧ Bytes w v (parts.getD i []) ∧ Whole0 v
/-- From w on by growth; v is the call's own and holds l. -/
structure FrW (w w' : World) (v : Value) (l : List Nat) : Prop where
  grown : w.grownBy w' none
  own : w'.ownsRow w.heap.size 5 1 v l.length (cellsL l)
theorem FrW.alloc {w w' : World} {v : Value} {l : List Nat} (h : FrW w w' v l) (o : Obj) : FrW w (w'.alloc o) v l := ⟨grown_alloc h.grown o, h.own.alloc o⟩
theorem FrW.step {w b c : World} {v v' : Value} {l l' : List Nat} {n' : Nat} {xs : List Value} (h : FrW w b v l) (ho : c.ownsRow w.heap.size 5 1 v' n' xs) (hg : b.grownBy c v.ownBlock) (e : xs = cellsL l') : FrW w c v' l' := by
  subst e
  have hn : n' = l'.length := by have := ho.1; rw [cellsL_len] at this; omega
  subst hn
  exact ⟨grown_own h.grown h.own (Nat.le_refl _) hg, ho⟩
theorem FrW.le {w w' : World} {v : Value} {l : List Nat} (h : FrW w w' v l) : w.heap.size ≤ w'.heap.size := h.grown.size
theorem PartsW.grown {w w' : World} {sb so : Nat} {parts : List (List Nat)} (h : PartsW w sb so parts) (hb : 0 < parts.length → sb < w.heap.size) (hg : w.grownBy w' none) : PartsW w' sb so parts := fun i hi => by
  obtain ⟨v, h1, h2, h3⟩ := h i hi
  exact ⟨v, by rw [World.cell?_of_block (hg.block sb (hb (by omega)) (by simp))]; exact h1, h2.grown hg, h3⟩
end Go.Proofs.YtihioekepflpiaaGreatDoor
namespace Go.Proofs.YtihioekepflpiaaGreatDoor
open Go.RowKit
/-- What the two errors' variables hold. -/
structure Errs (w : World) (eT eL : Value) : Prop where
  text : w.cell? ⟨9, 0, none⟩ = some eT
  long : w.cell? ⟨4, 0, none⟩ = some eL
  size : 9 < w.heap.size ∧ 4 < w.heap.size
theorem Errs.grown {w w' : World} {eT eL : Value} (h : Errs w eT eL) (hg : w.grownBy w' none) : Errs w' eT eL :=
  ⟨by rw [World.cell?_of_block (hg.block _ h.size.1 (by simp))]; exact h.text, by rw [World.cell?_of_block (hg.block _ h.size.2 (by simp))]; exact h.long, Nat.lt_of_lt_of_le h.size.1 hg.size, Nat.lt_of_lt_of_le h.size.2 hg.size⟩
end Go.Proofs.YtihioekepflpiaaGreatDoor
namespace Go.Proofs.YtihioekepflpiaaGreatDoor
open Go.RowKit
def marks : List Nat := [201, 202, 203, 204, 205, 206]
/-- The bytes and the marks behind them, in one block. -/
def Room (w : World) (g : Nat) (l : List Nat) : Prop := ∀ j, j < l.length + 6 → w.cell? ⟨g, j, none⟩ = some (.int .u8 ((l ++ marks).getD j 0 : Nat))
theorem Room.grown {w w' : World} {g : Nat} {l : List Nat} {row : Option Nat} (h : Room w g l) (hb : g < w.heap.size) (hg : w.grownBy w' row) (hne : some g ≠ row) : Room w' g l := fun j hj => by
  rw [World.cell?_of_block (hg.block g hb hne)]; exact h j hj
theorem Room.bytes {w : World} {g c : Nat} {l : List Nat} (h : Room w g l) (hl : ∀ x ∈ l, x < 256) (hb : g < w.heap.size) (hc : l.length ≤ c) : Bytes w (.slice (some ⟨g, 0, none⟩) l.length c) l :=
  ⟨hl, _, g, 0, c, rfl, hc, fun _ => ⟨rfl, hb⟩, fun j hj => by rw [Nat.zero_add, h j (by omega)]; simp [List.getD_eq_getElem?_getD, List.getElem?_append_left hj]⟩
end Go.Proofs.YtihioekepflpiaaGreatDoor
namespace Go.Proofs.YtihioekepflpiaaGreatDoor
open Go.RowKit
/-- The slice v has just the values xs. -/
def Vals (w : World) (v : Value) (xs : List Value) : Prop :=
  ∃ (a : Option Addr) (sb so c : Nat), v = .slice a xs.length c ∧ xs.length ≤ c ∧ (0 < xs.length → a = some ⟨sb, so, none⟩ ∧ sb < w.heap.size) ∧ ∀ j u, xs[j]? = some u → w.cell? ⟨sb, so + j, none⟩ = some u
theorem Vals.grown {w w' : World} {v : Value} {xs : List Value} (h : Vals w v xs) (hg : w.grownBy w' none) : Vals w' v xs := by
  obtain ⟨a, sb, so, c, h1, h2, h3, h4⟩ := h
  refine ⟨a, sb, so, c, h1, h2, fun hp => ⟨(h3 hp).1, Nat.lt_of_lt_of_le (h3 hp).2 hg.size⟩, fun j u hj => ?_⟩
  have hjl := (List.getElem?_eq_some_iff.1 hj).1
  rw [World.cell?_of_block (hg.block sb (h3 (by omega)).2 (by simp))]
  exact h4 j u hj
theorem Vals.own {w : World} {base : Nat} {e : TypeId} {v : Value} {n : Nat} {xs : List Value} (h : w.ownsRow base e 1 v n xs) : Vals w v xs := by
  have hn := h.1
  rw [Nat.mul_one] at hn
  subst hn
  obtain ⟨a, g, c, rfl, h1, h2, h3, h4⟩ := ownsRow_form h
  exact ⟨a, g, 0, c, rfl, h1, fun hp => ⟨(h3 hp).1, (h3 hp).2.2⟩, fun j u hj => by
    have hjl := (List.getElem?_eq_some_iff.1 hj).1
    rw [Nat.zero_add, h4 j hjl, hj]⟩
theorem Vals.cap {w : World} {a : Option Addr} {n c : Nat} {xs : List Value} (h : Vals w (.slice a n c) xs) : n = xs.length ∧ n ≤ c := by
  obtain ⟨_, _, _, _, he, hc, _⟩ := h
  cases he
  exact ⟨rfl, hc⟩
theorem Vals.nil (w : World) : Vals w (.slice none 0 0) [] := ⟨none, 0, 0, 0, rfl, Nat.le_refl _, fun h => absurd h (Nat.lt_irrefl _), fun j u hj => by simp at hj⟩
/-- The values are slices with just these bytes. -/
def Each (w : World) : List Value → List (List Nat) → Prop
  | [], [] => True
  | v :: vs, l :: ls => (Bytes w v l ∧ Whole0 v) ∧ Each w vs ls
  | _, _ => False
theorem Each.grown {w w' : World} : ∀ {xs : List Value} {L : List (List Nat)}, Each w xs L → w.grownBy w' none → Each w' xs L
  | [], [], _, _ => trivial
  | _ :: _, _ :: _, h, hg => ⟨⟨h.1.1.grown hg, h.1.2⟩, h.2.grown hg⟩
theorem Each.len {w : World} : ∀ {xs : List Value} {L : List (List Nat)}, Each w xs L → xs.length = L.length
  | [], [], _ => rfl
  | _ :: _, _ :: _, h => by rw [List.length_cons, List.length_cons, h.2.len]
theorem Each.append {w : World} : ∀ {xs ys : List Value} {L M : List (List Nat)}, Each w xs L → Each w ys M → Each w (xs ++ ys) (L ++ M)
  | [], _, [], _, _, h => h
  | _ :: _, _, _ :: _, _, h, h2 => ⟨h.1, h.2.append h2⟩
theorem Each.at_ {w : World} : ∀ {xs : List Value} {L : List (List Nat)} (k : Nat), Each w xs L → k < L.length → ∃ v, xs[k]? = some v ∧ Bytes w v (L.getD k []) ∧ Whole0 v
  | [], [], _, _, hk => absurd hk (Nat.not_lt_zero _)
  | v :: _, _ :: _, 0, h, _ => ⟨v, rfl, h.1.1, h.1.2⟩
  | _ :: _, _ :: _, k + 1, h, hk => by
    obtain ⟨v, h1, h2, h3⟩ := h.2.at_ k (by simpa using hk)
    exact ⟨v, by simpa using h1, by simpa using h2, h3⟩
theorem Each.one {w : World} : ∀ {xs : List Value} {L : List (List Nat)}, Each w xs L → ∀ u ∈ xs, u.oneCell' = true
  | [], [], _, u, hu => by cases hu
  | v :: vs, _ :: _, h, u, hu => by
    rcases List.mem_cons.1 hu with e | hu
    · subst e
      obtain ⟨_, a, _, _, c, rfl, _⟩ := h.1.1
      rfl
    · exact h.2.one u hu
theorem Each.parts {w : World} {a : Option Addr} {n c : Nat} {xs : List Value} {L : List (List Nat)} (hV : Vals w (.slice a n c) xs) (h : Each w xs L) : ∃ sb so, L.length = n ∧ (0 < n → a = some ⟨sb, so, none⟩ ∧ sb < w.heap.size) ∧ PartsW w sb so L := by
  obtain ⟨a1, sb, so, c1, he, hc, ha, hcell⟩ := hV
  cases he
  have hl := h.len
  refine ⟨sb, so, hl.symm, ha, fun i hi => ?_⟩
  obtain ⟨v, h1, h2, h3⟩ := h.at_ i hi
  exact ⟨v, hcell i v h1, h2, h3⟩
section
variable {P : Program}
/-- 'append(s, x...)', x a slice of values of one cell each. -/
theorem wpList_appV {w : World} {ops : Array Oper} {rest : List Oper} {o : Oper} {a : Act} {Q : Exit → Act → World → Prop} (hgd : o.guard = none) (s x : Operand) (t : TypeId)
    (ho : o.op = .call { callee := .builtin .append, args := #[s, x], argTypes := #[t, t] })
    (base : Nat) (e : TypeId) (z : Value) (bytes : Nat) (ht : P.underlying t = some (.slice e)) (hi : (P.info? e).map (fun i => (i.zero, i.size, i.bytes)) = some (some z, 1, bytes)) (hzs : z.cells.size = 1) (hby : bytes ≤ 64)
    (v : Value) (n : Nat) (xs : List Value) (hs : a.eval s = v) (hown : w.ownsRow base e 1 v n xs)
    (u : Value) (l : List Value) (hx : a.eval x = u) (hB : Vals w u l) (h0 : Whole0 u) (h1 : ∀ y ∈ l, y.oneCell' = true)
    (h63 : n + l.length ≤ 1099511627776) (hbase : base ≤ w.heap.size)
    (h : ∀ v' w', w'.ownsRow base e 1 v' (n + l.length) (xs ++ l) → w.grownBy w' v.ownBlock → (v'.ownBlock = v.ownBlock ∨ v'.ownBlock = some w.heap.size) → wpList P ops Q rest (a.put o.dst v') w') : wpList P ops Q (o :: rest) a w := by
  obtain ⟨i, h1', h2', h3', h4'⟩ := info_parts hi
  obtain ⟨ad, sb, so, c, rfl, hc, ha, hcell⟩ := hB
  match ad with
  | none =>
    obtain ⟨hn0, rfl⟩ := h0 _ _ rfl
    obtain rfl := List.eq_nil_of_length_eq_zero hn0
    refine wpList_append_own_none hgd s x t ho base e i 1 ht h1' v n xs hs hown hx (h v w ?_ (grown_refl _ _) (.inl rfl))
    simpa using hown
  | some ad =>
    obtain ⟨v', w', hr, k1, k2, k3⟩ := run_append_sharp (P := P) w base t o.type e i z ht h1' h2' h3' hzs (by rw [h4']; exact hby) v n xs hown ad l.length c l rfl (fun j u' hj => by
      have hjl := (List.getElem?_eq_some_iff.1 hj).1
      obtain ⟨e1, _⟩ := ha (by omega)
      obtain rfl := Option.some.inj e1
      rw [addr_addO, hcell j u' hj]) h1 h63 hbase
    refine wpList_plain hgd fun K hK => ?_
    unfold Oper.wp execOp
    simp only [ho, resolve, invoke, builtin, Sem.run_bind, Sem.run_pure, Result.andThen_ok, List.map_toArray, List.map_cons, List.map_nil, hs, hx, hr]
    exact hK _ _ (h v' w' k1 k2 k3)
end
theorem elemLL : Tryz.prog.underlying 95 = some (.slice (Tryz.prog.elem 95)) := by kernel_rfl
theorem sizeLL (w : World) : (sizeOf (Tryz.prog.elem 95)).run Tryz.prog w = .ok 1 w := by kernel_rfl
/-- The walk's own words for pieces of slices of slices. -/
@[go_sem high] theorem run_fromL (w : World) (a : Option Addr) (n c : Nat) (i : Int) (h0 : 0 ≤ i) (h1 : i ≤ n) :
    (Instr.slice 95 (.slice a n c) (some (.int .i64 i)) none none).run Tryz.prog w = .ok (.slice (subA a i.toNat c) (n - i.toNat) (c - i.toNat)) w := by
  rw [run_slice_l w 95 a n c elemLL .i64 i h0 h1, sizeLL]
  simp only [Result.andThen, sliced, Nat.mul_one, subA]
@[go_sem high] theorem run_toL (w : World) (a : Option Addr) (n c : Nat) (i : Int) (h0 : 0 ≤ i) (h1 : i ≤ c) :
    (Instr.slice 95 (.slice a n c) none (some (.int .i64 i)) none).run Tryz.prog w = .ok (.slice a i.toNat c) w := by
  have hadd : ∀ x : Addr, x.add 0 = x := fun x => by unfold Addr.add; split <;> simp_all
  rw [run_slice_h w 95 a n c elemLL .i64 i h0 h1, sizeLL]
  simp only [Result.andThen, sliced, Nat.mul_one, Nat.sub_zero]
  congr 2
  split
  · rfl
  · cases a
    · rfl
    · simp [hadd]
end Go.Proofs.YtihioekepflpiaaGreatDoor
namespace Go.Proofs.YtihioekepflpiaaGreatDoor
open Go.RowKit
/-- The second world grew out of the first; of the first's blocks only those of O may have changed. -/
structure Upto (O : Nat → Prop) (w w' : World) : Prop where
  os : w'.os = w.os
  tape : w'.tape = w.tape
  output : w'.output = w.output
  size : w.heap.size ≤ w'.heap.size
  block : ∀ k, k < w.heap.size → ¬ O k → w'.heap[k]? = w.heap[k]?
theorem Upto.refl (O : Nat → Prop) (w : World) : Upto O w w := ⟨rfl, rfl, rfl, Nat.le_refl _, fun _ _ _ => rfl⟩
theorem Upto.of_grown {w w' : World} (O : Nat → Prop) (h : w.grownBy w' none) : Upto O w w' := ⟨h.os, h.tape, h.output, h.size, fun k hk _ => h.block k hk (by simp)⟩
theorem Upto.of_row {w w' : World} {O : Nat → Prop} {row : Option Nat} (h : w.grownBy w' row) (hr : ∀ k, row = some k → O k ∨ w.heap.size ≤ k) : Upto O w w' :=
  ⟨h.os, h.tape, h.output, h.size, fun k hk ho => h.block k hk (fun e => by
    rcases hr k e.symm with h1 | h1
    · exact ho h1
    · omega)⟩
/-- What changed is of O, or came later. -/
theorem Upto.trans {a b c : World} {O O2 : Nat → Prop} (h : Upto O a b) (h2 : Upto O2 b c) (hO : ∀ k, k < a.heap.size → O2 k → O k) : Upto O a c :=
  ⟨h2.os.trans h.os, h2.tape.trans h.tape, h2.output.trans h.output, Nat.le_trans h.size h2.size, fun k hk ho => (h2.block k (Nat.lt_of_lt_of_le hk h.size) (fun h3 => ho (hO k hk h3))).trans (h.block k hk ho)⟩
theorem Upto.mono {a b : World} {O O2 : Nat → Prop} (h : Upto O a b) (hO : ∀ k, k < a.heap.size → O k → O2 k) : Upto O2 a b :=
  ⟨h.os, h.tape, h.output, h.size, fun k hk ho => h.block k hk (fun h2 => ho (hO k hk h2))⟩
theorem Upto.grown {a b : World} {O : Nat → Prop} (h : Upto O a b) (hO : ∀ k, k < a.heap.size → ¬ O k) : a.grownBy b none :=
  ⟨h.os, h.tape, h.output, h.size, fun k hk _ => h.block k hk (hO k hk)⟩
/-- The blocks of F stand as they stood. -/
structure Agree (F : Nat → Prop) (w w' : World) : Prop where
  size : w.heap.size ≤ w'.heap.size
  block : ∀ k, F k → w'.heap[k]? = w.heap[k]?
theorem Agree.refl (F : Nat → Prop) (w : World) : Agree F w w := ⟨Nat.le_refl _, fun _ _ => rfl⟩
theorem Agree.trans {F : Nat → Prop} {a b c : World} (h : Agree F a b) (h2 : Agree F b c) : Agree F a c := ⟨Nat.le_trans h.size h2.size, fun k hk => (h2.block k hk).trans (h.block k hk)⟩
theorem Agree.mono {F G : Nat → Prop} {a b : World} (h : Agree G a b) (hF : ∀ k, F k → G k) : Agree F a b := ⟨h.size, fun k hk => h.block k (hF k hk)⟩
/-- P is said of the blocks of F alone, which are there. -/
structure Sup (F : Nat → Prop) (w : World) (P : World → Prop) : Prop where
  lt : ∀ k, F k → k < w.heap.size
  holds : ∀ w', Agree F w w' → P w'
theorem Sup.now {F : Nat → Prop} {w : World} {P : World → Prop} (h : Sup F w P) : P w := h.holds w (Agree.refl F w)
theorem Sup.kept {F : Nat → Prop} {w w' : World} {P : World → Prop} (h : Sup F w P) (ha : Agree F w w') : Sup F w' P :=
  ⟨fun k hk => Nat.lt_of_lt_of_le (h.lt k hk) ha.size, fun w2 h2 => h.holds w2 (ha.trans h2)⟩
theorem Sup.agree {F O : Nat → Prop} {w w' : World} {P : World → Prop} (h : Sup F w P) (hu : Upto O w w') (hd : ∀ k, F k → ¬ O k) : Agree F w w' :=
  ⟨hu.size, fun k hk => hu.block k (h.lt k hk) (hd k hk)⟩
/-- Calls that change other blocks alone leave it. -/
theorem Sup.upto {F O : Nat → Prop} {w w' : World} {P : World → Prop} (h : Sup F w P) (hu : Upto O w w') (hd : ∀ k, F k → ¬ O k) : Sup F w' P := h.kept (h.agree hu hd)
theorem Sup.grown {F : Nat → Prop} {w w' : World} {P : World → Prop} (h : Sup F w P) (hg : w.grownBy w' none) : Sup F w' P := h.upto (Upto.of_grown (fun _ => False) hg) (fun _ _ h => h)
theorem Sup.mono {F G : Nat → Prop} {w : World} {P : World → Prop} (h : Sup F w P) (hF : ∀ k, F k → G k) (hG : ∀ k, G k → k < w.heap.size) : Sup G w P :=
  ⟨hG, fun w' ha => h.holds w' (ha.mono hF)⟩
theorem Sup.map {F : Nat → Prop} {w : World} {P Q : World → Prop} (h : Sup F w P) (hq : ∀ W, P W → Q W) : Sup F w Q := ⟨h.lt, fun w' ha => hq w' (h.holds w' ha)⟩
theorem Sup.and {F : Nat → Prop} {w : World} {P Q : World → Prop} (h : Sup F w P) (h2 : Sup F w Q) : Sup F w (fun W => P W ∧ Q W) := ⟨h.lt, fun w' ha => ⟨h.holds w' ha, h2.holds w' ha⟩⟩
/-- The block that a slice lies in; none's, if it is nil. -/
def At (v : Value) (k : Nat) : Prop := ∃ a n c, v = .slice (some a) n c ∧ a.block = k
theorem bytes_sup {F : Nat → Prop} {w : World} {v : Value} {l : List Nat} (h : Bytes w v l) (hF : ∀ k, F k → k < w.heap.size) (hv : 0 < l.length → ∀ k, At v k → F k) : Sup F w (fun W => Bytes W v l) := by
  obtain ⟨h1, a, sb, so, c, rfl, h3, h4, h5⟩ := h
  refine ⟨hF, fun w' ha => ⟨h1, a, sb, so, c, rfl, h3, fun hp => ⟨(h4 hp).1, Nat.lt_of_lt_of_le (h4 hp).2 ha.size⟩, fun j hj => ?_⟩⟩
  have hp : 0 < l.length := by omega
  rw [World.cell?_of_block (ha.block sb (hv hp sb ⟨_, _, _, by rw [(h4 hp).1], rfl⟩))]
  exact h5 j hj
end Go.Proofs.YtihioekepflpiaaGreatDoor
namespace Go.Proofs.YtihioekepflpiaaGreatDoor
open Go.RowKit
/-- F's blocks, and all of W0's. -/
def Or0 (W0 : World) (F : Nat → Prop) (k : Nat) : Prop := F k ∨ k < W0.heap.size
/-- P is said of the blocks of F, which came after W0, and of W0's, which stand as they stood. -/
structure Held (W0 w : World) (F : Nat → Prop) (P : World → Prop) : Prop where
  base : W0.grownBy w none
  own : ∀ k, F k → W0.heap.size ≤ k
  sup : Sup (Or0 W0 F) w P
/-- A call's growth: of what was there it turned blocks of F alone, and of what it holds now what was there was F's. -/
structure Turn (F F' : Nat → Prop) (w w' : World) : Prop where
  upto : Upto F w w'
  mine : ∀ k, k < w.heap.size → F' k → F k
/-- No block is of both. -/
def Apart (F G : Nat → Prop) : Prop := ∀ k, F k → ¬ G k
theorem Apart.symm {F G : Nat → Prop} (h : Apart F G) : Apart G F := fun k hg hf => h k hf hg
theorem Turn.trans {F F' F'' : Nat → Prop} {a b c : World} (h : Turn F F' a b) (k : Turn F' F'' b c) : Turn F F'' a c :=
  ⟨h.upto.trans k.upto (fun j hj hf => h.mine j hj hf), fun j hj hf => h.mine j hj (k.mine j (Nat.lt_of_lt_of_le hj h.upto.size) hf)⟩
theorem Turn.of_grown {F : Nat → Prop} {w w' : World} (h : w.grownBy w' none) : Turn F F w w' := ⟨Upto.of_grown F h, fun _ _ h => h⟩
theorem grown_join {a b c : World} (h : a.grownBy b none) (hg : b.grownBy c none) : a.grownBy c none :=
  ⟨hg.os.trans h.os, hg.tape.trans h.tape, hg.output.trans h.output, Nat.le_trans h.size hg.size, fun k hk _ => (hg.block k (Nat.lt_of_lt_of_le hk h.size) (by simp)).trans (h.block k hk (by simp))⟩
theorem Upto.base {W0 w w' : World} {F : Nat → Prop} (hb : W0.grownBy w none) (hF : ∀ k, F k → W0.heap.size ≤ k) (h : Upto F w w') : W0.grownBy w' none :=
  ⟨h.os.trans hb.os, h.tape.trans hb.tape, h.output.trans hb.output, Nat.le_trans hb.size h.size, fun k hk _ => (h.block k (Nat.lt_of_lt_of_le hk hb.size) (fun hf => by have := hF k hf; omega)).trans (hb.block k hk (by simp))⟩
section
variable {W0 w w' : World} {F F' G : Nat → Prop} {P Q : World → Prop}
theorem Held.lt (h : Held W0 w F P) {k : Nat} (hk : F k) : k < w.heap.size := h.sup.lt k (.inl hk)
theorem Held.map (h : Held W0 w F P) (hq : ∀ W, P W → Q W) : Held W0 w F Q := ⟨h.base, h.own, h.sup.map hq⟩
/-- A call that turns nothing leaves it. -/
theorem Held.grown (h : Held W0 w F P) (hg : w.grownBy w' none) : Held W0 w' F P := ⟨grown_join h.base hg, h.own, h.sup.grown hg⟩
end
end Go.Proofs.YtihioekepflpiaaGreatDoor
namespace Go.Proofs.YtihioekepflpiaaGreatDoor
open Go.RowKit
namespace Od
def septStep (n i : Nat) (acc : List Nat) : List Nat := if 0 < n / 128 ^ i % 128 ∨ 0 < acc.length ∨ i = 0 then acc ++ [if 0 < i then n / 128 ^ i % 128 + 128 else n / 128 ^ i % 128] else acc
def septUpto (n : Nat) : Nat → List Nat
  | 0 => []
  | k + 1 => septStep n (5 - k) (septUpto n k)
/-- A number's bytes of seven bits. -/
def sept (n : Nat) : List Nat := septUpto n 6
theorem septUpto_lt (n : Nat) : ∀ k, ∀ x ∈ septUpto n k, x < 256
  | 0 => by simp [septUpto]
  | k + 1 => by
    intro x hx
    rw [septUpto, septStep] at hx
    split at hx
    · rcases List.mem_append.1 hx with h | h
      · exact septUpto_lt n k x h
      · simp only [List.mem_singleton] at h
        subst h
        have := Nat.mod_lt (n / 128 ^ (5 - k)) (show 0 < 128 by decide)
        split <;> omega
    · exact septUpto_lt n k x hx
end Od
end Go.Proofs.YtihioekepflpiaaGreatDoor
namespace Go.Proofs.YtihioekepflpiaaGreatDoor
open Go.RowKit
/-- From w on by growth; v is the call's own and holds xs. -/
structure FrV (w w' : World) (v : Value) (xs : List Value) : Prop where
  grown : w.grownBy w' none
  own : w'.ownsRow w.heap.size 58 1 v xs.length xs
theorem FrV.step {w b c : World} {v v' : Value} {xs ys : List Value} {n' : Nat} (h : FrV w b v xs) (ho : c.ownsRow w.heap.size 58 1 v' n' ys) (hg : b.grownBy c v.ownBlock) : FrV w c v' ys := by
  have hn : n' = ys.length := by have := ho.1; omega
  subst hn
  exact ⟨grown_own h.grown h.own (Nat.le_refl _) hg, ho⟩
theorem FrV.first (w : World) : FrV w (w.alloc (.cells #[] 58)) (.slice (some ⟨w.heap.size, 0, none⟩) 0 0) [] :=
  ⟨World.grownBy_alloc _ _ _, World.ownsRow_lit w #[] 0 (Nat.le_refl _) (by unfold maxLen; omega) (by simp)⟩
namespace Pt
theorem sort_take (L : List (List Nat)) {j : Nat} (hj : j < L.length) : L.take (j + 1) = L.take j ++ [L.getD j []] := by
  rw [List.take_add_one, List.getElem?_eq_getElem hj, List.getD_eq_getElem?_getD, List.getElem?_eq_getElem hj]; rfl
end Pt
end Go.Proofs.YtihioekepflpiaaGreatDoor
