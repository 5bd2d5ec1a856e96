/- The order of bytes: the model's is that of lists; bytes.Compare. -/
import Derived.Test.YtbneggdfbkebcaaDoorAp
import Derived.Test.YtbneggdfbkebcaaDoorCa1
import Derived.Test.YtbneggdfbkebcaaDoorPt2
import Derived.Test.YtbneggdfbkebcaaDoorChecked
import GoSem.Extern.BytealgCompare
import Derived.Laws.Externs
import Derived.WalkKit
import Derived.Lib.Hide
namespace Go.Proofs.YtbneggdfbkebcaaDoor
open Go.RowKit
namespace Bc
/-- The model's order of bytes. -/
def cmp (a b : List Nat) : Int := Extern.BytealgCompare.cmp (strOf a) (strOf b)
theorem strOf_at (l : List Nat) (i : Nat) (h : i < l.length) : (strOf l)[i]! = UInt8.ofNat (l.getD i 0) := by
  have hs : i < (strOf l).size := by rw [strOf_size]; exact h
  rw [getElem!_pos (strOf l) i hs, List.getD_eq_getElem?_getD, List.getElem?_eq_getElem h]
  show ((l.map UInt8.ofNat).toArray)[i]'(by simpa using h) = _
  rw [List.getElem_toArray, List.getElem_map]
  rfl
theorem ne_at {x y : Nat} (hx : x < 256) (hy : y < 256) : (UInt8.ofNat x != UInt8.ofNat y) = decide (x ≠ y) := by
  rw [Bool.eq_iff_iff]
  simp only [bne_iff_ne, ne_eq, decide_eq_true_eq]
  refine not_congr ⟨fun h => ?_, fun h => by rw [h]⟩
  have := congrArg UInt8.toNat h
  rw [UInt8.toNat_ofNat', UInt8.toNat_ofNat', Nat.mod_eq_of_lt hx, Nat.mod_eq_of_lt hy] at this
  exact this
theorem lt_at {x y : Nat} (hx : x < 256) (hy : y < 256) : (UInt8.ofNat x < UInt8.ofNat y) ↔ x < y := by
  rw [UInt8.lt_iff_toNat_lt, UInt8.toNat_ofNat', UInt8.toNat_ofNat', Nat.mod_eq_of_lt hx, Nat.mod_eq_of_lt hy]

/-- Where lists first differ tells their order. -/
theorem lex_at : ∀ (a b : List Nat) (i : Nat), (∀ j, j < i → a.getD j 0 = b.getD j 0) → i ≤ a.length → i ≤ b.length →
    (i < a.length → i < b.length → a.getD i 0 ≠ b.getD i 0 → Cal.lex a b = decide (a.getD i 0 < b.getD i 0)) ∧
    (i = a.length ∨ i = b.length → Cal.lex a b = decide (a.length < b.length))
  | [], [], i, _, ha, _ => ⟨fun h => absurd h (by simp), fun _ => by simp [Cal.lex]⟩
  | [], y :: s, i, _, ha, _ => ⟨fun h => absurd h (by simp), fun _ => by simp [Cal.lex]⟩
  | x :: r, [], i, _, _, hb => ⟨fun _ h => absurd h (by simp), fun _ => by simp [Cal.lex]⟩
  | x :: r, y :: s, 0, _, _, _ => ⟨fun _ _ h => by
      simp only [List.getD_cons_zero] at h ⊢
      rw [Cal.lex, if_neg h], fun h => by simp at h⟩
  | x :: r, y :: s, i + 1, hj, ha, hb => by
    have e : x = y := by simpa using hj 0 (by omega)
    subst e
    have ih := lex_at r s i (fun j h => by simpa using hj (j + 1) (by omega)) (by simpa using ha) (by simpa using hb)
    simp only [List.getD_cons_succ, List.length_cons] at ih ⊢
    rw [Cal.lex, if_pos rfl]
    refine ⟨fun h1 h2 h3 => ih.1 (by omega) (by omega) h3, fun h => ?_⟩
    rw [ih.2 (by omega)]
    simp

/-- The order of the model's bytes is that of lists. -/
theorem cmp_lex {a b : List Nat} (ha : ∀ x ∈ a, x < 256) (hb : ∀ x ∈ b, x < 256) : decide (cmp a b < 0) = Cal.lex a b := by
  have ga : ∀ i, a.getD i 0 < 256 := fun i => by
    rw [List.getD_eq_getElem?_getD]
    cases h : a[i]? with
    | none => exact Nat.zero_lt_succ _
    | some x => exact ha x (List.mem_of_getElem? h)
  have gb : ∀ i, b.getD i 0 < 256 := fun i => by
    rw [List.getD_eq_getElem?_getD]
    cases h : b[i]? with
    | none => exact Nat.zero_lt_succ _
    | some x => exact hb x (List.mem_of_getElem? h)
  unfold cmp Extern.BytealgCompare.cmp
  rw [strOf_size, strOf_size]
  have pe : ∀ i, i < min a.length b.length → ((strOf a)[i]! != (strOf b)[i]!) = decide (a.getD i 0 ≠ b.getD i 0) := fun i h => by
    rw [strOf_at a i (by omega), strOf_at b i (by omega), ne_at (ga i) (gb i)]
  cases hf : (List.range (min a.length b.length)).find? fun i => (strOf a)[i]! != (strOf b)[i]! with
  | none =>
    rw [List.find?_range_eq_none] at hf
    have hj : ∀ j, j < min a.length b.length → a.getD j 0 = b.getD j 0 := fun j h => by
      have := hf j h
      rw [pe j h] at this
      simpa using this
    have hl := (lex_at a b (min a.length b.length) hj (by omega) (by omega)).2 (by omega)
    rw [hl]
    show decide ((if a.length < b.length then (-1 : Int) else if a.length > b.length then 1 else 0) < 0) = _
    by_cases h1 : a.length < b.length
    · rw [if_pos h1]; simp [h1]
    · rw [if_neg h1]; split <;> simp [h1]
  | some i =>
    rw [List.find?_range_eq_some] at hf
    obtain ⟨h1, h2, h3⟩ := hf
    have hi : i < min a.length b.length := List.mem_range.1 h2
    rw [pe i hi] at h1
    have hj : ∀ j, j < i → a.getD j 0 = b.getD j 0 := fun j h => by
      have := h3 j h
      rw [pe j (by omega)] at this
      simpa using this
    have hl := (lex_at a b i hj (by omega) (by omega)).1 (by omega) (by omega) (by simpa using h1)
    rw [hl]
    show decide ((if (strOf a)[i]! < (strOf b)[i]! then (-1 : Int) else 1) < 0) = _
    rw [strOf_at a i (by omega), strOf_at b i (by omega)]
    by_cases h : a.getD i 0 < b.getD i 0
    · rw [if_pos ((lt_at (ga i) (gb i)).2 h)]; simp only [h]; decide
    · rw [if_neg (fun h2 => h ((lt_at (ga i) (gb i)).1 h2))]; simp only [h]; decide

end Bc
theorem run_loadBytes2 {P : Program} {w : World} {sb : Nat} (l : List Nat) : ∀ (so : Nat) (acc : List Nat), (∀ j, j < l.length → w.cell? ⟨sb, so + j, none⟩ = some (.int .u8 (l.getD j 0 : Nat))) → (∀ x ∈ l, x < 256) →
    (Extern.Bytes.loadBytes ⟨sb, so, none⟩ l.length (strOf acc)).run P w = .ok (strOf (acc ++ l)) w := by
  induction l with
  | nil => intro so acc _ _; rw [List.append_nil]; rfl
  | cons x r ih =>
    intro so acc h hlt
    have hx := hlt x (by simp)
    have h0 := h 0 (by simp)
    simp only [List.getD_cons_zero, Nat.add_zero] at h0
    rw [List.length_cons, Extern.Bytes.loadBytes]
    simp only [Sem.run_bind, run_load, h0, Result.andThen]
    rw [addr_addO]
    have e : (strOf acc).push (x : Int).toNat.toUInt8 = strOf (acc ++ [x]) := by
      rw [Int.toNat_natCast]
      simp [strOf, ByteArray.push]
    rw [e]
    have := ih (so + 1) (acc ++ [x]) (fun j hj => by have := h (j + 1) (by simp; omega); rw [Nat.add_assoc, Nat.add_comm 1 j, this]; simp) (fun y hy => hlt y (by simp [hy]))
    rw [this, List.append_assoc]
    rfl
theorem run_bytesOf2 {P : Program} {w : World} {v : Value} {l : List Nat} (hB : Bytes w v l) (h0 : Whole0 v) : (Extern.Bytes.bytesOf v).run P w = .ok (strOf l) w := by
  obtain ⟨hlt, a, sb, so, c, rfl, hc, ha, hcell⟩ := hB
  match a with
  | none =>
    obtain ⟨hn, _⟩ := h0 _ _ rfl
    obtain rfl := List.eq_nil_of_length_eq_zero hn
    rfl
  | some ad =>
    match l, ha, hcell, hlt, hc, h0 with
    | [], _, _, _, _, _ => rfl
    | x :: r, ha, hcell, hlt, _, _ =>
      obtain ⟨e, _⟩ := ha (by simp)
      obtain rfl := Option.some.inj e
      have := run_loadBytes2 (P := P) (w := w) (sb := sb) (x :: r) so [] hcell hlt
      rw [List.nil_append] at this
      exact this

set_option maxRecDepth 100000 in
theorem compareB_any (v u : Value) (A B : List Nat) (w : World) (hA : Bytes w v A) (hB : Bytes w u B) (hv : Whole0 v) (hu : Whole0 u) :
    Calls Tryd.prog 35 #[v, u] w fun e w' => e = .returned (.int .i64 (Bc.cmp A B)) ∧ w' = w := by
  have h77 : (callFunc 45 #[v, u]).run Tryd.prog w = .ok (.value (.int .i64 (Bc.cmp A B))) w := by
    rw [@run_callFunc_extern Tryd.prog 45 _ Extern.BytealgCompare.compare Tryd.func45 (by kernel_rfl) (by kernel_rfl) (by kernel_rfl) (by kernel_rfl)]
    have e : Extern.BytealgCompare.compare #[v, u] = (do pure (goInt (Extern.BytealgCompare.cmp (← Extern.Bytes.bytesOf v) (← Extern.Bytes.bytesOf u)))) := rfl
    rw [e]
    simp only [Sem.run_bind, run_bytesOf2 hA hv, run_bytesOf2 hB hu, Result.andThen]
    rfl
  obtain ⟨_, va, _, _, vc, rfl, _⟩ := hA
  obtain ⟨_, ua, _, _, uc, rfl, _⟩ := hB
  generalize Bc.cmp A B = c at *
  go_enter Tryd.func35, Tryd.ntmps35
  go_wp2
  go_ret
  exact ⟨rfl, rfl⟩


namespace Pt
/-- In order: each beside the next. -/
theorem sorted_adj (l : List (List Nat)) : Sorted l ↔ ∀ k, k + 1 < l.length → Cal.lex (l.getD (k + 1) []) (l.getD k []) = false := by
  induction l with
  | nil => simp [Sorted]
  | cons x r ih =>
    constructor
    · intro h k hk
      have h' := List.pairwise_cons.1 h
      match k with
      | 0 =>
        have : r.getD 0 [] ∈ r := by
          rw [List.getD_eq_getElem?_getD, List.getElem?_eq_getElem (by simpa using hk)]
          exact List.getElem_mem _
        exact h'.1 _ this
      | k + 1 => exact ih.1 h'.2 k (by simpa using hk)
    · intro h
      have hr : Sorted r := ih.2 (fun k hk => h (k + 1) (by simpa using hk))
      refine List.pairwise_cons.2 ⟨fun y hy => ?_, hr⟩
      match r, hr, h, hy with
      | z :: s, hr, h, hy =>
        have h0 : le x z := h 0 (by simp)
        rcases List.mem_cons.1 hy with e | hy
        · subst e; exact h0
        · exact le_trans h0 ((List.pairwise_cons.1 hr).1 y hy)
end Pt
end Go.Proofs.YtbneggdfbkebcaaDoor
