/- Slices of slices of bytes: what they hold, pieces of them, appending to them. -/
import Derived.Test.YtbneggdfbkebcaaDoorAp2
import Derived.Test.YtbneggdfbkebcaaDoorSub
import Derived.Test.YtbneggdfbkebcaaDoorMs4
namespace Go.Proofs.YtbneggdfbkebcaaDoor
open Go.RowKit
set_option linter.unusedVariables false

/-- The slice v has just the values xs. -/
def Vals (w : World) (v : Value) (xs : List Value) : Prop :=
  ∃ (a : Option Addr) (sb so c : Nat), v = .slice a xs.length c ∧ xs.length ≤ c ∧ (0 < xs.length → a = some ⟨sb, so, none⟩ ∧ sb < w.heap.size) ∧ ∀ j u, xs[j]? = some u → w.cell? ⟨sb, so + j, none⟩ = some u
theorem Vals.grown {w w' : World} {v : Value} {xs : List Value} (h : Vals w v xs) (hg : w.grownBy w' none) : Vals w' v xs := by
  obtain ⟨a, sb, so, c, h1, h2, h3, h4⟩ := h
  refine ⟨a, sb, so, c, h1, h2, fun hp => ⟨(h3 hp).1, Nat.lt_of_lt_of_le (h3 hp).2 hg.size⟩, fun j u hj => ?_⟩
  have hjl := (List.getElem?_eq_some_iff.1 hj).1
  rw [World.cell?_of_block (hg.block sb (h3 (by omega)).2 (by simp))]
  exact h4 j u hj
theorem Vals.own {w : World} {base : Nat} {e : TypeId} {v : Value} {n : Nat} {xs : List Value} (h : w.ownsRow base e 1 v n xs) : Vals w v xs := by
  have hn := h.1
  rw [Nat.mul_one] at hn
  subst hn
  obtain ⟨a, g, c, rfl, h1, h2, h3, h4⟩ := ownsRow_form h
  exact ⟨a, g, 0, c, rfl, h1, fun hp => ⟨(h3 hp).1, (h3 hp).2.2⟩, fun j u hj => by
    have hjl := (List.getElem?_eq_some_iff.1 hj).1
    rw [Nat.zero_add, h4 j hjl, hj]⟩
theorem Vals.cap {w : World} {a : Option Addr} {n c : Nat} {xs : List Value} (h : Vals w (.slice a n c) xs) : n = xs.length ∧ n ≤ c := by
  obtain ⟨_, _, _, _, he, hc, _⟩ := h
  cases he
  exact ⟨rfl, hc⟩
theorem Vals.from {w : World} {a : Option Addr} {n c : Nat} {xs : List Value} (hB : Vals w (.slice a n c) xs) (k : Nat) (hk : k ≤ n) : Vals w (.slice (subA a k c) (n - k) (c - k)) (xs.drop k) := by
  obtain ⟨a1, sb, so, c1, he, hc, ha, hcell⟩ := hB
  cases he
  refine ⟨subA a k c, sb, so + k, c - k, by rw [List.length_drop], by rw [List.length_drop]; omega, fun hpos => ?_, fun j u hj => ?_⟩
  · rw [List.length_drop] at hpos
    obtain ⟨e, hlt⟩ := ha (by omega)
    refine ⟨?_, hlt⟩
    rw [subA, if_neg (by omega), e, Option.map_some, addr_addO]
  · rw [List.getElem?_drop] at hj
    have := hcell (k + j) u hj
    rw [← Nat.add_assoc] at this
    exact this
theorem Vals.to {w : World} {a : Option Addr} {n c : Nat} {xs : List Value} (hB : Vals w (.slice a n c) xs) (k : Nat) (hk : k ≤ n) : Vals w (.slice a k c) (xs.take k) := by
  obtain ⟨a1, sb, so, c1, he, hc, ha, hcell⟩ := hB
  cases he
  refine ⟨a, sb, so, c, by rw [List.length_take, Nat.min_eq_left hk], by rw [List.length_take]; omega, fun hpos => ?_, fun j u hj => ?_⟩
  · rw [List.length_take] at hpos
    exact ha (by omega)
  · rw [List.getElem?_take] at hj
    split at hj
    · exact hcell j u hj
    · cases hj
theorem Vals.lit {w : World} {g : Nat} {t : TypeId} {fr : Nat × Nat} {xs : List Value} (h : w.heap[g]? = some (.cells xs.toArray t fr)) : Vals w (.slice (some ⟨g, 0, none⟩) xs.length xs.length) xs :=
  ⟨_, g, 0, _, rfl, Nat.le_refl _, fun _ => ⟨rfl, blk_lt h⟩, fun j u hj => by rw [Nat.zero_add]; exact cell_blk h j (by simpa using hj)⟩
theorem Vals.nil (w : World) : Vals w (.slice none 0 0) [] := ⟨none, 0, 0, 0, rfl, Nat.le_refl _, fun h => absurd h (Nat.lt_irrefl _), fun j u hj => by simp at hj⟩

/-- The values are slices with just these bytes. -/
def Each (w : World) : List Value → List (List Nat) → Prop
  | [], [] => True
  | v :: vs, l :: ls => (Bytes w v l ∧ Whole0 v) ∧ Each w vs ls
  | _, _ => False
theorem Each.grown {w w' : World} : ∀ {xs : List Value} {L : List (List Nat)}, Each w xs L → w.grownBy w' none → Each w' xs L
  | [], [], _, _ => trivial
  | _ :: _, _ :: _, h, hg => ⟨⟨h.1.1.grown hg, h.1.2⟩, h.2.grown hg⟩
theorem Each.len {w : World} : ∀ {xs : List Value} {L : List (List Nat)}, Each w xs L → xs.length = L.length
  | [], [], _ => rfl
  | _ :: _, _ :: _, h => by rw [List.length_cons, List.length_cons, h.2.len]
theorem Each.append {w : World} : ∀ {xs ys : List Value} {L M : List (List Nat)}, Each w xs L → Each w ys M → Each w (xs ++ ys) (L ++ M)
  | [], _, [], _, _, h => h
  | _ :: _, _, _ :: _, _, h, h2 => ⟨h.1, h.2.append h2⟩
theorem Each.take {w : World} : ∀ {xs : List Value} {L : List (List Nat)} (k : Nat), Each w xs L → Each w (xs.take k) (L.take k)
  | _, _, 0, _ => by simp [Each]
  | [], [], _ + 1, _ => trivial
  | _ :: _, _ :: _, k + 1, h => ⟨h.1, h.2.take k⟩
theorem Each.drop {w : World} : ∀ {xs : List Value} {L : List (List Nat)} (k : Nat), Each w xs L → Each w (xs.drop k) (L.drop k)
  | _, _, 0, h => h
  | [], [], _ + 1, _ => trivial
  | _ :: _, _ :: _, k + 1, h => h.2.drop k
theorem Each.at_ {w : World} : ∀ {xs : List Value} {L : List (List Nat)} (k : Nat), Each w xs L → k < L.length → ∃ v, xs[k]? = some v ∧ Bytes w v (L.getD k []) ∧ Whole0 v
  | [], [], _, _, hk => absurd hk (Nat.not_lt_zero _)
  | v :: _, _ :: _, 0, h, _ => ⟨v, rfl, h.1.1, h.1.2⟩
  | _ :: _, _ :: _, k + 1, h, hk => by
    obtain ⟨v, h1, h2, h3⟩ := h.2.at_ k (by simpa using hk)
    exact ⟨v, by simpa using h1, by simpa using h2, h3⟩
theorem Each.one {w : World} : ∀ {xs : List Value} {L : List (List Nat)}, Each w xs L → ∀ u ∈ xs, u.oneCell' = true
  | [], [], _, u, hu => by cases hu
  | v :: vs, _ :: _, h, u, hu => by
    rcases List.mem_cons.1 hu with e | hu
    · subst e
      obtain ⟨_, a, _, _, c, rfl, _⟩ := h.1.1
      rfl
    · exact h.2.one u hu
theorem Each.parts {w : World} {a : Option Addr} {n c : Nat} {xs : List Value} {L : List (List Nat)} (hV : Vals w (.slice a n c) xs) (h : Each w xs L) : ∃ sb so, L.length = n ∧ (0 < n → a = some ⟨sb, so, none⟩ ∧ sb < w.heap.size) ∧ PartsW w sb so L := by
  obtain ⟨a1, sb, so, c1, he, hc, ha, hcell⟩ := hV
  cases he
  have hl := h.len
  refine ⟨sb, so, hl.symm, ha, fun i hi => ?_⟩
  obtain ⟨v, h1, h2, h3⟩ := h.at_ i hi
  exact ⟨v, hcell i v h1, h2, h3⟩
/-- The values of parts that came in. -/
theorem each_of : ∀ (L : List (List Nat)) (w : World) (sb so : Nat), PartsW w sb so L → ∃ xs, Each w xs L ∧ ∀ j u, xs[j]? = some u → w.cell? ⟨sb, so + j, none⟩ = some u
  | [], _, _, _, _ => ⟨[], trivial, fun j u h => by simp at h⟩
  | l :: L, w, sb, so, h => by
    obtain ⟨v, h1, h2, h3⟩ := h 0 (by simp)
    obtain ⟨xs, k1, k2⟩ := each_of L w sb (so + 1) (fun i hi => by
      obtain ⟨v, a, b, c⟩ := h (i + 1) (by simpa using hi)
      exact ⟨v, by rw [Nat.add_assoc, Nat.add_comm 1 i]; exact a, by simpa using b, c⟩)
    refine ⟨v :: xs, ⟨⟨by simpa using h2, h3⟩, k1⟩, fun j u hj => ?_⟩
    match j, hj with
    | 0, hj => obtain rfl := Option.some.inj hj; exact h1
    | j + 1, hj =>
      have := k2 j u (by simpa using hj)
      rw [Nat.add_assoc, Nat.add_comm 1 j] at this
      exact this

section
variable {P : Program}
/-- 'append(s, x...)', x a slice of values of one cell each. -/
theorem wpList_appV {w : World} {ops : Array Oper} {rest : List Oper} {o : Oper} {a : Act} {Q : Exit → Act → World → Prop} (hgd : o.guard = none) (s x : Operand) (t : TypeId)
    (ho : o.op = .call { callee := .builtin .append, args := #[s, x], argTypes := #[t, t] })
    (base : Nat) (e : TypeId) (z : Value) (bytes : Nat) (ht : P.underlying t = some (.slice e)) (hi : (P.info? e).map (fun i => (i.zero, i.size, i.bytes)) = some (some z, 1, bytes)) (hzs : z.cells.size = 1) (hby : bytes ≤ 64)
    (v : Value) (n : Nat) (xs : List Value) (hs : a.eval s = v) (hown : w.ownsRow base e 1 v n xs)
    (u : Value) (l : List Value) (hx : a.eval x = u) (hB : Vals w u l) (h0 : Whole0 u) (h1 : ∀ y ∈ l, y.oneCell' = true)
    (h63 : n + l.length ≤ 1099511627776) (hbase : base ≤ w.heap.size)
    (h : ∀ v' w', w'.ownsRow base e 1 v' (n + l.length) (xs ++ l) → w.grownBy w' v.ownBlock → (v'.ownBlock = v.ownBlock ∨ v'.ownBlock = some w.heap.size) → wpList P ops Q rest (a.put o.dst v') w') : wpList P ops Q (o :: rest) a w := by
  obtain ⟨i, h1', h2', h3', h4'⟩ := info_parts hi
  obtain ⟨ad, sb, so, c, rfl, hc, ha, hcell⟩ := hB
  match ad with
  | none =>
    obtain ⟨hn0, rfl⟩ := h0 _ _ rfl
    obtain rfl := List.eq_nil_of_length_eq_zero hn0
    refine wpList_append_own_none hgd s x t ho base e i 1 ht h1' v n xs hs hown hx (h v w ?_ (grown_refl _ _) (.inl rfl))
    simpa using hown
  | some ad =>
    obtain ⟨v', w', hr, k1, k2, k3⟩ := run_append_sharp (P := P) w base t o.type e i z ht h1' h2' h3' hzs (by rw [h4']; exact hby) v n xs hown ad l.length c l rfl (fun j u' hj => by
      have hjl := (List.getElem?_eq_some_iff.1 hj).1
      obtain ⟨e1, _⟩ := ha (by omega)
      obtain rfl := Option.some.inj e1
      rw [addr_addO, hcell j u' hj]) h1 h63 hbase
    refine wpList_plain hgd fun K hK => ?_
    unfold Oper.wp execOp
    simp only [ho, resolve, invoke, builtin, Sem.run_bind, Sem.run_pure, Result.andThen_ok, List.map_toArray, List.map_cons, List.map_nil, hs, hx, hr]
    exact hK _ _ (h v' w' k1 k2 k3)
end

theorem elemLL : Tryd.prog.underlying 44 = some (.slice (Tryd.prog.elem 44)) := by kernel_rfl
theorem sizeLL (w : World) : (sizeOf (Tryd.prog.elem 44)).run Tryd.prog w = .ok 1 w := by kernel_rfl
/-- The walk's own words for pieces of slices of slices. -/
@[go_sem high] theorem run_fromL (w : World) (a : Option Addr) (n c : Nat) (i : Int) (h0 : 0 ≤ i) (h1 : i ≤ n) :
    (Instr.slice 44 (.slice a n c) (some (.int .i64 i)) none none).run Tryd.prog w = .ok (.slice (subA a i.toNat c) (n - i.toNat) (c - i.toNat)) w := by
  rw [run_slice_l w 44 a n c elemLL .i64 i h0 h1, sizeLL]
  simp only [Result.andThen, sliced, Nat.mul_one, subA]
@[go_sem high] theorem run_toL (w : World) (a : Option Addr) (n c : Nat) (i : Int) (h0 : 0 ≤ i) (h1 : i ≤ c) :
    (Instr.slice 44 (.slice a n c) none (some (.int .i64 i)) none).run Tryd.prog w = .ok (.slice a i.toNat c) w := by
  have hadd : ∀ x : Addr, x.add 0 = x := fun x => by unfold Addr.add; split <;> simp_all
  rw [run_slice_h w 44 a n c elemLL .i64 i h0 h1, sizeLL]
  simp only [Result.andThen, sliced, Nat.mul_one, Nat.sub_zero]
  congr 2
  split
  · rfl
  · cases a
    · rfl
    · simp [hadd]
end Go.Proofs.YtbneggdfbkebcaaDoor
