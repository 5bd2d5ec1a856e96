import Derived.Test.YtagdcjpjbjboeaaGreatDoorZb00
import Derived.Test.YtagdcjpjbjboeaaGreatDoorZb03
import Derived.Test.YtagdcjpjbjboeaaGreatDoorChecked
import Derived.WalkKit
import Derived.Lib.Hide
import Derived.Laws.Externs
import Derived.KernelRfl
import Derived.Laws.Slices
namespace Go.Proofs.YtagdcjpjbjboeaaGreatDoor
open Go.RowKit
namespace Wh
theorem num_snoc (c : Nat) : ∀ l, num (l ++ [c]) = num l * 256 + c
  | [] => by simp [num]
  | x :: r => by
    rw [List.cons_append, num, num_snoc c r, num, List.length_append, List.length_singleton, Nat.pow_succ]
    generalize 256 ^ r.length = p
    rw [Nat.add_mul, ← Nat.mul_assoc]
    omega
theorem num_take (l : List Nat) (k : Nat) (h : k < l.length) : num (l.take (k + 1)) = num (l.take k) * 256 + l.getD k 0 := by
  rw [List.take_add_one, List.getElem?_eq_getElem h, Option.toList_some, num_snoc]
  simp [List.getD_eq_getElem?_getD, List.getElem?_eq_getElem h]
/-- What the loop has behind k bytes, of 64 bits. -/
def acc (s : Bool) (l : List Nat) (k : Nat) : Nat := num (l.take k) + (if s then 18446744073709551616 - 256 ^ k else 0)
end Wh
theorem getD_small {l : List Nat} (h : ∀ x ∈ l, x < 256) (j : Nat) : l.getD j 0 < 256 := by
  rcases Nat.lt_or_ge j l.length with hj | hj
  · rw [List.getD_eq_getElem?_getD, List.getElem?_eq_getElem hj]; exact h _ (List.getElem_mem hj)
  · rw [List.getD_eq_getElem?_getD, List.getElem?_eq_none hj]; decide
end Go.Proofs.YtagdcjpjbjboeaaGreatDoor
namespace Go.Proofs.YtagdcjpjbjboeaaGreatDoor
open Go.RowKit
namespace Bc
/-- The model's order of bytes. -/
def cmp (a b : List Nat) : Int := Extern.BytealgCompare.cmp (strOf a) (strOf b)
theorem strOf_at (l : List Nat) (i : Nat) (h : i < l.length) : (strOf l)[i]! = UInt8.ofNat (l.getD i 0) := by
  have hs : i < (strOf l).size := by rw [strOf_size]; exact h
  rw [getElem!_pos (strOf l) i hs, List.getD_eq_getElem?_getD, List.getElem?_eq_getElem h]
  show ((l.map UInt8.ofNat).toArray)[i]'(by simpa using h) = _
  rw [List.getElem_toArray, List.getElem_map]
  rfl
theorem ne_at {x y : Nat} (hx : x < 256) (hy : y < 256) : (UInt8.ofNat x != UInt8.ofNat y) = decide (x ≠ y) := by
  rw [Bool.eq_iff_iff]
  simp only [bne_iff_ne, ne_eq, decide_eq_true_eq]
  refine not_congr ⟨fun h => ?_, fun h => by rw [h]⟩
  have := congrArg UInt8.toNat h
  rw [UInt8.toNat_ofNat', UInt8.toNat_ofNat', Nat.mod_eq_of_lt hx, Nat.mod_eq_of_lt hy] at this
  exact this
theorem lt_at {x y : Nat} (hx : x < 256) (hy : y < 256) : (UInt8.ofNat x < UInt8.ofNat y) ↔ x < y := by
  rw [UInt8.lt_iff_toNat_lt, UInt8.toNat_ofNat', UInt8.toNat_ofNat', Nat.mod_eq_of_lt hx, Nat.mod_eq_of_lt hy]
/-- Where lists first differ tells their order. -/
theorem lex_at : ∀ (a b : List Nat) (i : Nat), (∀ j, j < i → a.getD j 0 = b.getD j 0) → i ≤ a.length → i ≤ b.length →
    (i < a.length → i < b.length → a.getD i 0 ≠ b.getD i 0 → Cal.lex a b = decide (a.getD i 0 < b.getD i 0)) ∧
    (i = a.length ∨ i = b.length → Cal.lex a b = decide (a.length < b.length))
  | [], [], i, _, ha, _ => ⟨fun h => absurd h (by simp), fun _ => by simp [Cal.lex]⟩
  | [], y :: s, i, _, ha, _ => ⟨fun h => absurd h (by simp), fun _ => by simp [Cal.lex]⟩
  | x :: r, [], i, _, _, hb => ⟨fun _ h => absurd h (by simp), fun _ => by simp [Cal.lex]⟩
  | x :: r, y :: s, 0, _, _, _ => ⟨fun _ _ h => by
      simp only [List.getD_cons_zero] at h ⊢
      rw [Cal.lex, if_neg h], fun h => by simp at h⟩
  | x :: r, y :: s, i + 1, hj, ha, hb => by
    have e : x = y := by simpa using hj 0 (by omega)
    subst e
    have ih := lex_at r s i (fun j h => by simpa using hj (j + 1) (by omega)) (by simpa using ha) (by simpa using hb)
    simp only [List.getD_cons_succ, List.length_cons] at ih ⊢
    rw [Cal.lex, if_pos rfl]
    refine ⟨fun h1 h2 h3 => ih.1 (by omega) (by omega) h3, fun h => ?_⟩
    rw [ih.2 (by omega)]
    simp
/-- The order of the model's bytes is that of lists. -/
theorem cmp_lex {a b : List Nat} (ha : ∀ x ∈ a, x < 256) (hb : ∀ x ∈ b, x < 256) : decide (cmp a b < 0) = Cal.lex a b := by
  have ga : ∀ i, a.getD i 0 < 256 := fun i => by
    rw [List.getD_eq_getElem?_getD]
    cases h : a[i]? with
    | none => exact Nat.zero_lt_succ _
    | some x => exact ha x (List.mem_of_getElem? h)
  have gb : ∀ i, b.getD i 0 < 256 := fun i => by
    rw [List.getD_eq_getElem?_getD]
    cases h : b[i]? with
    | none => exact Nat.zero_lt_succ _
    | some x => exact hb x (List.mem_of_getElem? h)
  unfold cmp Extern.BytealgCompare.cmp
  rw [strOf_size, strOf_size]
  have pe : ∀ i, i < min a.length b.length → ((strOf a)[i]! != (strOf b)[i]!) = decide (a.getD i 0 ≠ b.getD i 0) := fun i h => by
    rw [strOf_at a i (by omega), strOf_at b i (by omega), ne_at (ga i) (gb i)]
  cases hf : (List.range (min a.length b.length)).find? fun i => (strOf a)[i]! != (strOf b)[i]! with
  | none =>
    rw [List.find?_range_eq_none] at hf
    have hj : ∀ j, j < min a.length b.length → a.getD j 0 = b.getD j 0 := fun j h => by
      have := hf j h
      rw [pe j h] at this
      simpa using this
    have hl := (lex_at a b (min a.length b.length) hj (by omega) (by omega)).2 (by omega)
    rw [hl]
    show decide ((if a.length < b.length then (-1 : Int) else if a.length > b.length then 1 else 0) < 0) = _
    by_cases h1 : a.length < b.length
    · rw [if_pos h1]; simp [h1]
    · rw [if_neg h1]; split <;> simp [h1]
  | some i =>
    rw [List.find?_range_eq_some] at hf
    obtain ⟨h1, h2, h3⟩ := hf
    have hi : i < min a.length b.length := List.mem_range.1 h2
    rw [pe i hi] at h1
    have hj : ∀ j, j < i → a.getD j 0 = b.getD j 0 := fun j h => by
      have := h3 j h
      rw [pe j (by omega)] at this
      simpa using this
    have hl := (lex_at a b i hj (by omega) (by omega)).1 (by omega) (by omega) (by simpa using h1)
    rw [hl]
    show decide ((if (strOf a)[i]! < (strOf b)[i]! then (-1 : Int) else 1) < 0) = _
    rw [strOf_at a i (by omega), strOf_at b i (by omega)]
    by_cases h : a.getD i 0 < b.getD i 0
    · rw [if_pos ((lt_at (ga i) (gb i)).2 h)]; simp only [h]; decide
    · rw [if_neg (fun h2 => h ((lt_at (ga i) (gb i)).1 h2))]; simp only [h]; decide
end Bc
theorem run_loadBytes2 {P : Program} {w : World} {sb : Nat} (l : List Nat) : ∀ (so : Nat) (acc : List Nat), (∀ j, j < l.length → w.cell? ⟨sb, so + j, none⟩ = some (.int .u8 (l.getD j 0 : Nat))) → (∀ x ∈ l, x < 256) →
    (Extern.Bytes.loadBytes ⟨sb, so, none⟩ l.length (strOf acc)).run P w = .ok (strOf (acc ++ l)) w := by
  induction l with
  | nil => intro so acc _ _; rw [List.append_nil]; rfl
  | cons x r ih =>
    intro so acc h hlt
    have hx := hlt x (by simp)
    have h0 := h 0 (by simp)
    simp only [List.getD_cons_zero, Nat.add_zero] at h0
    rw [List.length_cons, Extern.Bytes.loadBytes]
    simp only [Sem.run_bind, run_load, h0, Result.andThen]
    rw [addr_addO]
    have e : (strOf acc).push (x : Int).toNat.toUInt8 = strOf (acc ++ [x]) := by
      rw [Int.toNat_natCast]
      simp [strOf, ByteArray.push]
    rw [e]
    have := ih (so + 1) (acc ++ [x]) (fun j hj => by have := h (j + 1) (by simp; omega); rw [Nat.add_assoc, Nat.add_comm 1 j, this]; simp) (fun y hy => hlt y (by simp [hy]))
    rw [this, List.append_assoc]
    rfl
theorem run_bytesOf2 {P : Program} {w : World} {v : Value} {l : List Nat} (hB : Bytes w v l) (h0 : Whole0 v) : (Extern.Bytes.bytesOf v).run P w = .ok (strOf l) w := by
  obtain ⟨hlt, a, sb, so, c, rfl, hc, ha, hcell⟩ := hB
  match a with
  | none =>
    obtain ⟨hn, _⟩ := h0 _ _ rfl
    obtain rfl := List.eq_nil_of_length_eq_zero hn
    rfl
  | some ad =>
    match l, ha, hcell, hlt, hc, h0 with
    | [], _, _, _, _, _ => rfl
    | x :: r, ha, hcell, hlt, _, _ =>
      obtain ⟨e, _⟩ := ha (by simp)
      obtain rfl := Option.some.inj e
      have := run_loadBytes2 (P := P) (w := w) (sb := sb) (x :: r) so [] hcell hlt
      rw [List.nil_append] at this
      exact this
set_option maxRecDepth 100000 in
theorem compareB_any (v u : Value) (A B : List Nat) (w : World) (hA : Bytes w v A) (hB : Bytes w u B) (hv : Whole0 v) (hu : Whole0 u) :
    Calls Tryz.prog 197 #[v, u] w fun e w' => e = .returned (.int .i64 (Bc.cmp A B)) ∧ w' = w := by
  have h77 : (callFunc 226 #[v, u]).run Tryz.prog w = .ok (.value (.int .i64 (Bc.cmp A B))) w := by
    rw [@run_callFunc_extern Tryz.prog 226 _ Extern.BytealgCompare.compare Tryz.func226 (by kernel_rfl) (by kernel_rfl) (by kernel_rfl) (by kernel_rfl)]
    have e : Extern.BytealgCompare.compare #[v, u] = (do pure (goInt (Extern.BytealgCompare.cmp (← Extern.Bytes.bytesOf v) (← Extern.Bytes.bytesOf u)))) := rfl
    rw [e]
    simp only [Sem.run_bind, run_bytesOf2 hA hv, run_bytesOf2 hB hu, Result.andThen]
    rfl
  obtain ⟨_, va, _, _, vc, rfl, _⟩ := hA
  obtain ⟨_, ua, _, _, uc, rfl, _⟩ := hB
  generalize Bc.cmp A B = c at *
  go_enter Tryz.func197, Tryz.ntmps197
  go_wp2
  go_ret
  exact ⟨rfl, rfl⟩
namespace Pt
end Pt
end Go.Proofs.YtagdcjpjbjboeaaGreatDoor
namespace Go.Proofs.YtagdcjpjbjboeaaGreatDoor
open Go.RowKit
section
variable {P : Program}
theorem Whole0.len {a : Option Addr} {n c : Nat} (h : Whole0 (.slice a n c)) : a = none → n = 0 ∧ c = 0 := fun e => by subst e; exact h _ _ rfl
theorem Bytes.cap {w : World} {a : Option Addr} {n c : Nat} {l : List Nat} (h : Bytes w (.slice a n c) l) : n = l.length ∧ n ≤ c := by
  obtain ⟨_, _, _, _, _, he, hc, _⟩ := h
  cases he
  exact ⟨rfl, hc⟩
/-- Where a piece begins. -/
def subA (a : Option Addr) (k c : Nat) : Option Addr := if c = k then a else a.map (·.add k)
theorem subA_none {a : Option Addr} {k c : Nat} (h : subA a k c = none) : a = none := by
  unfold subA at h
  split at h
  · exact h
  · cases a
    · rfl
    · cases h
/-- Behind the first k. -/
theorem Bytes.from {w : World} {a : Option Addr} {n c : Nat} {l : List Nat} (hB : Bytes w (.slice a n c) l) (k : Nat) (hk : k ≤ n) : Bytes w (.slice (subA a k c) (n - k) (c - k)) (l.drop k) := by
  obtain ⟨h1, a1, sb, so, c1, he, hc, ha, hcell⟩ := hB
  cases he
  refine ⟨fun x hx => h1 x (List.mem_of_mem_drop hx), subA a k c, sb, so + k, c - k, by rw [List.length_drop], by rw [List.length_drop]; omega, fun hpos => ?_, fun j hj => ?_⟩
  · rw [List.length_drop] at hpos
    obtain ⟨e, hlt⟩ := ha (by omega)
    refine ⟨?_, hlt⟩
    rw [subA, if_neg (by omega), e, Option.map_some, addr_addO]
  · rw [List.length_drop] at hj
    have := hcell (k + j) (by omega)
    rw [← Nat.add_assoc] at this
    rw [this]
    simp [List.getD_eq_getElem?_getD]
theorem Whole0.from {a : Option Addr} {n c : Nat} (h0 : Whole0 (.slice a n c)) (k : Nat) : Whole0 (.slice (subA a k c) (n - k) (c - k)) := fun n' c' e => by
  simp only [Value.slice.injEq] at e
  obtain ⟨e1, e2, e3⟩ := e
  have := h0.len (subA_none e1)
  omega
/-- The first k. -/
theorem Bytes.to {w : World} {a : Option Addr} {n c : Nat} {l : List Nat} (hB : Bytes w (.slice a n c) l) (k : Nat) (hk : k ≤ n) : Bytes w (.slice a k c) (l.take k) := by
  obtain ⟨h1, a1, sb, so, c1, he, hc, ha, hcell⟩ := hB
  cases he
  refine ⟨fun x hx => h1 x (List.mem_of_mem_take hx), a, sb, so, c, by rw [List.length_take, Nat.min_eq_left hk], by rw [List.length_take]; omega, fun hpos => ?_, fun j hj => ?_⟩
  · rw [List.length_take] at hpos
    exact ha (by omega)
  · rw [List.length_take] at hj
    rw [hcell j (by omega)]
    simp [List.getD_eq_getElem?_getD, show j < k by omega]
theorem Whole0.to {a : Option Addr} {n c : Nat} (h0 : Whole0 (.slice a n c)) (k : Nat) (hk : k ≤ n) : Whole0 (.slice a k c) := fun n' c' e => by
  simp only [Value.slice.injEq] at e
  obtain ⟨e1, e2, e3⟩ := e
  have := h0.len e1
  omega
end
theorem elemU8 : Tryz.prog.underlying 22 = some (.slice (Tryz.prog.elem 22)) := by kernel_rfl
theorem sizeU8 (w : World) : (sizeOf (Tryz.prog.elem 22)).run Tryz.prog w = .ok 1 w := by kernel_rfl
/-- The walk's own words for pieces of bytes: the 'if' at the end of the room behind one name. -/
@[go_sem high] theorem run_from8 (w : World) (a : Option Addr) (n c : Nat) (i : Int) (h0 : 0 ≤ i) (h1 : i ≤ n) :
    (Instr.slice 22 (.slice a n c) (some (.int .i64 i)) none none).run Tryz.prog w = .ok (.slice (subA a i.toNat c) (n - i.toNat) (c - i.toNat)) w := by
  rw [run_slice_l w 22 a n c elemU8 .i64 i h0 h1, sizeU8]
  simp only [Result.andThen, sliced, Nat.mul_one, subA]
@[go_sem high] theorem run_from8_1 (w : World) (a : Option Addr) (n c : Nat) :
    (Instr.slice 22 (.slice a (n + 1) c) (some (.int .i64 1)) none none).run Tryz.prog w = .ok (.slice (subA a 1 c) n (c - 1)) w := by
  rw [run_from8 w a (n + 1) c 1 (by decide) (by omega)]
  rfl
@[go_sem high] theorem run_to8 (w : World) (a : Option Addr) (n c : Nat) (i : Int) (h0 : 0 ≤ i) (h1 : i ≤ c) :
    (Instr.slice 22 (.slice a n c) none (some (.int .i64 i)) none).run Tryz.prog w = .ok (.slice a i.toNat c) w := by
  have hadd : ∀ x : Addr, x.add 0 = x := fun x => by unfold Addr.add; split <;> simp_all
  rw [run_slice_h w 22 a n c elemU8 .i64 i h0 h1, sizeU8]
  simp only [Result.andThen, sliced, Nat.mul_one, Nat.sub_zero]
  congr 2
  split
  · rfl
  · cases a
    · rfl
    · simp [hadd]
end Go.Proofs.YtagdcjpjbjboeaaGreatDoor
namespace Go.Proofs.YtagdcjpjbjboeaaGreatDoor
open Go.RowKit
set_option linter.unusedVariables false
/-- The slice v has just the ints l. -/
def Ints (w : World) (v : Value) (l : List Int) : Prop :=
  ∃ (a : Option Addr) (sb so c : Nat), v = .slice a l.length c ∧ l.length ≤ c ∧ (0 < l.length → a = some ⟨sb, so, none⟩ ∧ sb < w.heap.size) ∧ ∀ j, j < l.length → w.cell? ⟨sb, so + j, none⟩ = some (.int .i64 (l.getD j 0))
def cellsI (l : List Int) : List Value := l.map fun z => Value.int .i64 z
theorem cellsI_len (l : List Int) : (cellsI l).length = l.length := by simp [cellsI]
theorem cellsI_one (l : List Int) : ∀ u ∈ cellsI l, u.oneCell' = true := by
  intro u hu
  simp only [cellsI, List.mem_map] at hu
  obtain ⟨z, _, rfl⟩ := hu
  rfl
theorem cellsI_append (a b : List Int) : cellsI (a ++ b) = cellsI a ++ cellsI b := by simp [cellsI]
theorem cellsI_at (l : List Int) (j : Nat) (h : j < l.length) : (cellsI l)[j]? = some (.int .i64 (l.getD j 0)) := by simp [cellsI, h]
theorem Ints.grown {w w' : World} {v : Value} {l : List Int} (h : Ints w v l) (hg : w.grownBy w' none) : Ints w' v l := by
  obtain ⟨a, sb, so, c, h1, h2, h3, h4⟩ := h
  refine ⟨a, sb, so, c, h1, h2, fun hp => ⟨(h3 hp).1, Nat.lt_of_lt_of_le (h3 hp).2 hg.size⟩, fun j hj => ?_⟩
  rw [World.cell?_of_block (hg.block sb (h3 (by omega)).2 (by simp))]
  exact h4 j hj
theorem Ints.nil (w : World) : Ints w (.slice none 0 0) [] := ⟨none, 0, 0, 0, rfl, Nat.le_refl _, fun h => absurd h (Nat.lt_irrefl _), fun j hj => absurd hj (Nat.not_lt_zero _)⟩
theorem Ints.own {w : World} {base : Nat} {e : TypeId} {v : Value} {n : Nat} {l : List Int} (h : w.ownsRow base e 1 v n (cellsI l)) : Ints w v l := by
  have hn := h.1
  rw [cellsI_len, Nat.mul_one] at hn
  subst hn
  obtain ⟨a, g, c, rfl, h1, h2, h3, h4⟩ := ownsRow_form h
  refine ⟨a, g, 0, c, rfl, h1, fun hp => ⟨(h3 hp).1, (h3 hp).2.2⟩, fun j hj => ?_⟩
  rw [Nat.zero_add, h4 j hj, cellsI_at l j hj]
theorem Ints.cap {w : World} {a : Option Addr} {n c : Nat} {l : List Int} (h : Ints w (.slice a n c) l) : n = l.length ∧ n ≤ c := by
  obtain ⟨_, _, _, _, he, hc, _⟩ := h
  cases he
  exact ⟨rfl, hc⟩
/-- Behind the first k. -/
theorem Ints.from {w : World} {a : Option Addr} {n c : Nat} {l : List Int} (hB : Ints w (.slice a n c) l) (k : Nat) (hk : k ≤ n) : Ints w (.slice (subA a k c) (n - k) (c - k)) (l.drop k) := by
  obtain ⟨a1, sb, so, c1, he, hc, ha, hcell⟩ := hB
  cases he
  refine ⟨subA a k c, sb, so + k, c - k, by rw [List.length_drop], by rw [List.length_drop]; omega, fun hpos => ?_, fun j hj => ?_⟩
  · rw [List.length_drop] at hpos
    obtain ⟨e, hlt⟩ := ha (by omega)
    refine ⟨?_, hlt⟩
    rw [subA, if_neg (by omega), e, Option.map_some, addr_addO]
  · rw [List.length_drop] at hj
    have := hcell (k + j) (by omega)
    rw [← Nat.add_assoc] at this
    rw [this]
    simp [List.getD_eq_getElem?_getD]
/-- The first k. -/
theorem Ints.to {w : World} {a : Option Addr} {n c : Nat} {l : List Int} (hB : Ints w (.slice a n c) l) (k : Nat) (hk : k ≤ n) : Ints w (.slice a k c) (l.take k) := by
  obtain ⟨a1, sb, so, c1, he, hc, ha, hcell⟩ := hB
  cases he
  refine ⟨a, sb, so, c, by rw [List.length_take, Nat.min_eq_left hk], by rw [List.length_take]; omega, fun hpos => ?_, fun j hj => ?_⟩
  · rw [List.length_take] at hpos
    exact ha (by omega)
  · rw [List.length_take] at hj
    rw [hcell j (by omega)]
    simp [List.getD_eq_getElem?_getD, show j < k by omega]
/-- From w on by growth; v is the call's own and holds l. -/
structure FrI (w w' : World) (v : Value) (l : List Int) : Prop where
  grown : w.grownBy w' none
  own : w'.ownsRow w.heap.size 3 1 v l.length (cellsI l)
theorem FrI.alloc {w w' : World} {v : Value} {l : List Int} (h : FrI w w' v l) (o : Obj) : FrI w (w'.alloc o) v l := ⟨grown_alloc h.grown o, h.own.alloc o⟩
theorem FrI.step {w b c : World} {v v' : Value} {l l' : List Int} {n' : Nat} {xs : List Value} (h : FrI w b v l) (ho : c.ownsRow w.heap.size 3 1 v' n' xs) (hg : b.grownBy c v.ownBlock) (e : xs = cellsI l') : FrI w c v' l' := by
  subst e
  have hn : n' = l'.length := by have := ho.1; rw [cellsI_len] at this; omega
  subst hn
  exact ⟨grown_own h.grown h.own (Nat.le_refl _) hg, ho⟩
theorem FrI.le {w w' : World} {v : Value} {l : List Int} (h : FrI w w' v l) : w.heap.size ≤ w'.heap.size := h.grown.size
theorem FrI.more {w b c : World} {v : Value} {l : List Int} (h : FrI w b v l) (hg : b.grownBy c none) : FrI w c v l := ⟨grown_trans h.grown hg, h.own.kept hg (Classical.em _)⟩
section
variable {P : Program}
/-- 'append(s, x...)', x a slice of ints. -/
theorem wpList_appI {w : World} {ops : Array Oper} {rest : List Oper} {o : Oper} {a : Act} {Q : Exit → Act → World → Prop} (hgd : o.guard = none) (s x : Operand) (t : TypeId)
    (ho : o.op = .call { callee := .builtin .append, args := #[s, x], argTypes := #[t, t] })
    (base : Nat) (e : TypeId) (z : Value) (bytes : Nat) (ht : P.underlying t = some (.slice e)) (hi : (P.info? e).map (fun i => (i.zero, i.size, i.bytes)) = some (some z, 1, bytes)) (hzs : z.cells.size = 1) (hby : bytes ≤ 64)
    (v : Value) (n : Nat) (xs : List Value) (hs : a.eval s = v) (hown : w.ownsRow base e 1 v n xs)
    (u : Value) (l : List Int) (hx : a.eval x = u) (hB : Ints w u l) (h0 : Whole0 u)
    (h63 : n + l.length ≤ 1099511627776) (hbase : base ≤ w.heap.size)
    (h : ∀ v' w', w'.ownsRow base e 1 v' (n + l.length) (xs ++ cellsI l) → w.grownBy w' v.ownBlock → wpList P ops Q rest (a.put o.dst v') w') : wpList P ops Q (o :: rest) a w := by
  obtain ⟨i, h1', h2', h3', h4'⟩ := info_parts hi
  obtain ⟨ad, sb, so, c, rfl, hc, ha, hcell⟩ := hB
  match ad with
  | none =>
    obtain ⟨hn0, rfl⟩ := h0 _ _ rfl
    obtain rfl := List.eq_nil_of_length_eq_zero hn0
    refine wpList_append_own_none hgd s x t ho base e i 1 ht h1' v n xs hs hown hx (h v w ?_ (grown_refl _ _))
    simpa [cellsI] using hown
  | some ad =>
    refine wpList_append_own w hgd s x t ho base e i z 1 bytes ht h1' h2' h3' h4' hzs (by decide) v n xs hs hown ad l.length c (cellsI l) hx (by simp [cellsI]) ?_ (cellsI_one l) ?_ ?_ hbase (fun v' w' a1 a2 _ => h v' w' a1 a2)
    · intro j u' hj
      have hjl : j < l.length := by
        have := (List.getElem?_eq_some_iff.1 hj).1
        simpa [cellsI] using this
      obtain ⟨e1, _⟩ := ha (by omega)
      obtain rfl := Option.some.inj e1
      rw [addr_addO, hcell j hjl, ← cellsI_at l j hjl, hj]
    · unfold maxLen; omega
    · exact Nat.le_trans (Nat.mul_le_mul_left _ hby) (by omega)
end
theorem Ints.lit {w : World} {g : Nat} {t : TypeId} {fr : Nat × Nat} {l : List Int} (h : w.heap[g]? = some (.cells (cellsI l).toArray t fr)) : Ints w (.slice (some ⟨g, 0, none⟩) l.length l.length) l :=
  ⟨_, g, 0, _, rfl, Nat.le_refl _, fun _ => ⟨rfl, blk_lt h⟩, fun j hj => by rw [Nat.zero_add]; exact cell_blk h j (by simpa using cellsI_at l j hj)⟩
theorem elemInt : Tryz.prog.underlying 57 = some (.slice (Tryz.prog.elem 57)) := by kernel_rfl
theorem sizeIntE (w : World) : (sizeOf (Tryz.prog.elem 57)).run Tryz.prog w = .ok 1 w := by kernel_rfl
/-- The walk's own words for pieces of ints. -/
@[go_sem high] theorem run_fromI (w : World) (a : Option Addr) (n c : Nat) (i : Int) (h0 : 0 ≤ i) (h1 : i ≤ n) :
    (Instr.slice 57 (.slice a n c) (some (.int .i64 i)) none none).run Tryz.prog w = .ok (.slice (subA a i.toNat c) (n - i.toNat) (c - i.toNat)) w := by
  rw [run_slice_l w 57 a n c elemInt .i64 i h0 h1, sizeIntE]
  simp only [Result.andThen, sliced, Nat.mul_one, subA]
@[go_sem high] theorem run_fromI_2 (w : World) (a : Option Addr) (n c : Nat) :
    (Instr.slice 57 (.slice a (n + 2) c) (some (.int .i64 2)) none none).run Tryz.prog w = .ok (.slice (subA a 2 c) n (c - 2)) w := by
  rw [run_fromI w a (n + 2) c 2 (by decide) (by omega)]
  rfl
@[go_sem high] theorem run_fromI_1 (w : World) (a : Option Addr) (n c : Nat) :
    (Instr.slice 57 (.slice a (n + 1) c) (some (.int .i64 1)) none none).run Tryz.prog w = .ok (.slice (subA a 1 c) n (c - 1)) w := by
  rw [run_fromI w a (n + 1) c 1 (by decide) (by omega)]
  rfl
@[go_sem high] theorem run_toI (w : World) (a : Option Addr) (n c : Nat) (i : Int) (h0 : 0 ≤ i) (h1 : i ≤ c) :
    (Instr.slice 57 (.slice a n c) none (some (.int .i64 i)) none).run Tryz.prog w = .ok (.slice a i.toNat c) w := by
  have hadd : ∀ x : Addr, x.add 0 = x := fun x => by unfold Addr.add; split <;> simp_all
  rw [run_slice_h w 57 a n c elemInt .i64 i h0 h1, sizeIntE]
  simp only [Result.andThen, sliced, Nat.mul_one, Nat.sub_zero]
  congr 2
  split
  · rfl
  · cases a <;> simp [hadd]
end Go.Proofs.YtagdcjpjbjboeaaGreatDoor
namespace Go.Proofs.YtagdcjpjbjboeaaGreatDoor
open Go.RowKit
def seg (l : List Nat) (i j : Nat) : List Nat := (l.drop i).take (j - i)
theorem extract_seg (s : ByteArray) (i j : Nat) : s.extract i j = strOf (seg (strL s) i j) := by
  apply strL_inj
  have hl : ∀ x ∈ seg (strL s) i j, x < 256 := fun x hx => strL_lt s x (List.mem_of_mem_drop (List.mem_of_mem_take hx))
  rw [strL_strOf hl]
  unfold strL seg
  rw [ByteArray.data_extract, Array.toList_extract, List.extract_eq_take_drop, List.map_take, List.map_drop]
theorem seg_end (l : List Nat) (i : Nat) : seg l i l.length = l.drop i := by
  unfold seg
  exact List.take_of_length_le (by rw [List.length_drop]; omega)
def cellsS (ps : List (List Nat)) : List Value := ps.map fun p => Value.string (strOf p)
theorem cellsS_len (l : List (List Nat)) : (cellsS l).length = l.length := by simp [cellsS]
theorem cellsS_at (l : List (List Nat)) (j : Nat) (h : j < l.length) : (cellsS l)[j]? = some (.string (strOf (l.getD j []))) := by simp [cellsS, h]
/-- The slice v has just these texts. -/
def Strs (w : World) (v : Value) (l : List (List Nat)) : Prop :=
  ∃ (a : Option Addr) (sb so c : Nat), v = .slice a l.length c ∧ l.length ≤ c ∧ (0 < l.length → a = some ⟨sb, so, none⟩ ∧ sb < w.heap.size) ∧ ∀ j, j < l.length → w.cell? ⟨sb, so + j, none⟩ = some (.string (strOf (l.getD j [])))
theorem Strs.grown {w w' : World} {v : Value} {l : List (List Nat)} (h : Strs w v l) (hg : w.grownBy w' none) : Strs w' v l := by
  obtain ⟨a, sb, so, c, h1, h2, h3, h4⟩ := h
  refine ⟨a, sb, so, c, h1, h2, fun hp => ⟨(h3 hp).1, Nat.lt_of_lt_of_le (h3 hp).2 hg.size⟩, fun j hj => ?_⟩
  rw [World.cell?_of_block (hg.block sb (h3 (by omega)).2 (by simp))]
  exact h4 j hj
theorem Strs.own {w : World} {base : Nat} {e : TypeId} {v : Value} {n : Nat} {l : List (List Nat)} (h : w.ownsRow base e 1 v n (cellsS l)) : Strs w v l := by
  have hn := h.1
  rw [cellsS_len, Nat.mul_one] at hn
  subst hn
  obtain ⟨a, g, c, rfl, h1, h2, h3, h4⟩ := ownsRow_form h
  refine ⟨a, g, 0, c, rfl, h1, fun hp => ⟨(h3 hp).1, (h3 hp).2.2⟩, fun j hj => ?_⟩
  rw [Nat.zero_add, h4 j hj, cellsS_at l j hj]
/-- From w on by growth; v is the call's own and holds the texts. -/
structure FrS (w w' : World) (v : Value) (l : List (List Nat)) : Prop where
  grown : w.grownBy w' none
  own : w'.ownsRow w.heap.size 9 1 v l.length (cellsS l)
theorem FrS.alloc {w w' : World} {v : Value} {l : List (List Nat)} (h : FrS w w' v l) (o : Obj) : FrS w (w'.alloc o) v l := ⟨grown_alloc h.grown o, h.own.alloc o⟩
theorem FrS.step {w b c : World} {v v' : Value} {l l' : List (List Nat)} {n' : Nat} {xs : List Value} (h : FrS w b v l) (ho : c.ownsRow w.heap.size 9 1 v' n' xs) (hg : b.grownBy c v.ownBlock) (e : xs = cellsS l') : FrS w c v' l' := by
  subst e
  have hn : n' = l'.length := by have := ho.1; rw [cellsS_len] at this; omega
  subst hn
  exact ⟨grown_own h.grown h.own (Nat.le_refl _) hg, ho⟩
theorem FrS.le {w w' : World} {v : Value} {l : List (List Nat)} (h : FrS w w' v l) : w.heap.size ≤ w'.heap.size := h.grown.size
end Go.Proofs.YtagdcjpjbjboeaaGreatDoor
namespace Go.Proofs.YtagdcjpjbjboeaaGreatDoor
open Go.RowKit
@[go_sem high] theorem run_lh8n (w : World) (a : Option Addr) (n c l h : Nat) (h1 : l ≤ h) (h2 : h ≤ c) :
    (Instr.slice 22 (.slice a n c) (some (.int .i64 (l : Int))) (some (.int .i64 (h : Int))) none).run Tryz.prog w = .ok (.slice (subA a l c) (h - l) (c - l)) w := by
  rw [run_slice_lh w 22 a n c elemU8 .i64 .i64 (l : Int) (h : Int) (by omega) (by omega) (by omega), sizeU8]
  simp only [Result.andThen, sliced, Nat.mul_one, subA, Int.toNat_natCast]
end Go.Proofs.YtagdcjpjbjboeaaGreatDoor
