import Derived.Test.YtgdnndapmcjoeaaDoorKa02
import Derived.Test.YtgdnndapmcjoeaaDoorKa03
import Derived.Test.YtgdnndapmcjoeaaDoorRows
import Derived.WalkKit
import Derived.WalkSpells
import Derived.WalkLawsBesides
import Derived.Deep.QuietTactic
import Derived.BigQuiet
import Derived.Laws.BitsAllLaws
import Derived.Lib.Hide
namespace Go.Proofs.YtgdnndapmcjoeaaDoor
open Go.RowKit
theorem u8_or_xor (x a b : Nat) (hx : x < 256) (ha : a < 256) (hb : b < 256) : bits .or .u8 (x : Int) (bits .xor .u8 (a : Int) (b : Int)) = ((x ||| (a ^^^ b) : Nat) : Int) := by
  rw [u8_xor_nat a b ha hb, u8_or_nat x _ hx (Nat.xor_lt_two_pow (n := 8) (by omega) (by omega))]
theorem xor_zero {a b : Nat} : a ^^^ b = 0 ↔ a = b := by
  constructor
  · intro h
    have : a ^^^ b ^^^ b = 0 ^^^ b := by rw [h]
    simpa [Nat.xor_assoc] using this
  · rintro rfl; simp
/-- What is unlike, all of it in one byte. -/
def unl : List Nat → List Nat → Nat → Nat
  | _, _, 0 => 0
  | A, B, k + 1 => unl A B k ||| (A.getD k 0 ^^^ B.getD k 0)
theorem getD_lt' {l : List Nat} (h : ∀ x ∈ l, x < 256) (k : Nat) : l.getD k 0 < 256 := by
  rw [List.getD_eq_getElem?_getD]
  cases e : l[k]? with
  | none => simp
  | some x => exact h x (List.mem_of_getElem? e)
theorem unl_lt {A B : List Nat} (hA : ∀ x ∈ A, x < 256) (hB : ∀ x ∈ B, x < 256) : ∀ k, unl A B k < 256
  | 0 => Nat.zero_lt_succ _
  | k + 1 => Nat.or_lt_two_pow (n := 8) (unl_lt hA hB k) (Nat.xor_lt_two_pow (n := 8) (getD_lt' hA k) (getD_lt' hB k))
theorem unl_zero (A B : List Nat) : ∀ k, unl A B k = 0 ↔ ∀ j, j < k → A.getD j 0 = B.getD j 0
  | 0 => by simp [unl]
  | k + 1 => by
    rw [unl, Nat.or_eq_zero_iff, unl_zero A B k, xor_zero]
    constructor
    · rintro ⟨h1, h2⟩ j hj
      rcases Nat.lt_or_ge j k with h | h
      · exact h1 j h
      · obtain rfl : j = k := by omega
        exact h2
    · intro h
      exact ⟨fun j hj => h j (by omega), h k (by omega)⟩
theorem unl_all {A B : List Nat} (h : A.length = B.length) : decide (unl A B A.length = 0) = decide (A = B) := by
  rw [decide_eq_decide, unl_zero]
  constructor
  · intro hh
    refine List.ext_getElem h fun i h1 h2 => ?_
    have := hh i h1
    simpa [h1, h2] using this
  · rintro rfl j _; rfl
end Go.Proofs.YtgdnndapmcjoeaaDoor
namespace Go.Proofs.YtgdnndapmcjoeaaDoor
open Go.RowKit
def letter (c : Nat) : Bool := decide ((97 ≤ c ∧ c ≤ 122) ∨ (48 ≤ c ∧ c ≤ 57) ∨ c = 45)
theorem ret_bool {a b : Bool} (h : a = b) : Ending.returned (.bool a) = .returned (.bool b) := by rw [h]
set_option maxRecDepth 100000 in
set_option maxHeartbeats 400000 in
theorem letter_any (c : Nat) (w : World) :
    Calls Tryd.prog 65 #[.int .u8 c] w fun e w' => e = .returned (.bool (letter c)) ∧ w' = w := by
  go_enter Tryd.func65, Tryd.ntmps65
  go_wp2
  all_goals (go_ret; exact ⟨ret_bool (by unfold letter; rw [Bool.eq_iff_iff]; simp; omega), rfl⟩)
theorem getD_get (l : List Nat) (j : Nat) (h : j < l.length) : l.getD j 0 = l[j] := by
  rw [List.getD_eq_getElem?_getD, List.getElem?_eq_getElem h]; rfl
/-- Which bytes are a word. -/
def wordB (l : List Nat) : Bool := decide (1 ≤ l.length ∧ l.length ≤ 32) && l.all letter
set_option maxRecDepth 100000 in
set_option maxHeartbeats 400000 in
theorem word_any (s : ByteArray) (hs : s.size ≤ 9223372036854775807) (w : World) :
    Calls Tryd.prog 53 #[.string s] w fun e w' => e = .returned (.bool (wordB (strL s))) ∧ w' = w := by
  obtain ⟨n, hn⟩ : ∃ n, n = s.size := ⟨_, rfl⟩
  have Hn := Lib.hid hn
  have hl : (strL s).length = n := by rw [strL_len, hn]
  go_enter Tryd.func53, Tryd.ntmps53
  by_cases hn0 : 1 ≤ n ∧ n ≤ 32
  · have d1 : decide ((s.size : Int) < 1) = false := by rw [← hn]; simp; omega
    have d2 : decide ((32 : Int) < (s.size : Int)) = false := by rw [← hn]; simp; omega
    go_wp2
    go_loopw [14] (fun i wr => ∃ k : Nat, k ≤ n ∧ i = .int .i64 k ∧ wr = w ∧ ∀ j, j < k → letter ((strL s).getD j 0) = true) (fun i _ => n - (intOf i).toNat)
    case atStart => exact ⟨0, Nat.zero_le _, rfl, rfl, fun j hj => absurd hj (Nat.not_lt_zero _)⟩
    case round =>
      obtain ⟨k, hk, rfl, rfl, hall⟩ := hrel
      have HA := Lib.hid hall
      clear hall
      by_cases hkn : k < n
      · have hks : k < s.size := by omega
        have hix : (Instr.index 9 (.string s) (.int .i64 (k : Int))).run Tryd.prog wr = .ok (.int .u8 ((strL s).getD k 0 : Nat)) wr := by
          rw [run_index_string wr _ s .i64 k Tryd.underlying9, dif_pos ⟨by omega, by omega⟩, ← strL_getD s k hks]
          rfl
        have HL := Lib.hid (letter_any ((strL s).getD k 0) wr)
        have hlt : (k : Int) < (s.size : Int) := by omega
        clear hks d1 d2
        cases hb : letter ((strL s).getD k 0)
        · go_wp2_with (go_at_call 65; refine HL.out.mono ?_; rintro e w2 ⟨rfl, rfl⟩; simp only [hb])
          go_ret
          refine ⟨ret_bool ?_, rfl⟩
          rw [eq_comm, wordB, Bool.and_eq_false_iff]
          right
          rw [← Bool.not_eq_true, List.all_eq_true]
          intro h
          have := h ((strL s).getD k 0) (by rw [getD_get _ _ (by omega)]; exact List.getElem_mem _)
          rw [hb] at this
          cases this
        · go_wp2_with (go_at_call 65; refine HL.out.mono ?_; rintro e w2 ⟨rfl, rfl⟩; simp only [hb])
          go_roundw
          case rel =>
            refine ⟨k + 1, by omega, by go_num, trivial, fun j hj => ?_⟩
            rcases Nat.lt_or_ge j k with h | h
            · exact HA.out j h
            · obtain rfl : j = k := by omega
              exact hb
          case measure => simp [intOf]; omega
      · obtain rfl : k = n := by omega
        have hlt : ¬ ((k : Int) < (s.size : Int)) := by omega
        go_wp2
        go_ret
        refine ⟨ret_bool ?_, rfl⟩
        rw [eq_comm, wordB, Bool.and_eq_true, decide_eq_true_eq, hl]
        refine ⟨hn0, ?_⟩
        rw [List.all_eq_true]
        intro x hx
        obtain ⟨j, hj, rfl⟩ := List.mem_iff_getElem.1 hx
        have := HA.out j (by omega)
        rwa [getD_get _ _ hj] at this
  · have hw : wordB (strL s) = false := by
      rw [wordB, Bool.and_eq_false_iff]
      left
      rw [hl]
      exact decide_eq_false hn0
    rw [hw]
    by_cases h1 : n < 1
    · have d1 : decide ((s.size : Int) < 1) = true := by rw [← hn]; simp; omega
      go_wp2
      go_ret
      exact ⟨rfl, rfl⟩
    · have d1 : decide ((s.size : Int) < 1) = false := by rw [← hn]; simp; omega
      have d2 : decide ((32 : Int) < (s.size : Int)) = true := by rw [← hn]; simp; omega
      go_wp2
      go_ret
      exact ⟨rfl, rfl⟩
end Go.Proofs.YtgdnndapmcjoeaaDoor
namespace Go.Proofs.YtgdnndapmcjoeaaDoor
open Go.RowKit
def be4 (n : Nat) : List Nat := [n / 16777216 % 256, n / 65536 % 256, n / 256 % 256, n % 256]
theorem be4_lt (n : Nat) : ∀ x ∈ be4 n, x < 256 := by
  intro x hx
  simp only [be4, List.mem_cons, List.not_mem_nil, or_false] at hx
  rcases hx with rfl | rfl | rfl | rfl <;> exact Nat.mod_lt _ (by decide)
set_option maxRecDepth 100000 in
set_option maxHeartbeats 400000 in
theorem size_any (v : Value) (n m base : Nat) (xs : List Value) (w : World) (ho : w.ownsRow base 5 1 v n xs) (hb : base ≤ w.heap.size) (hn : n ≤ 1099511620000) (_hm : m ≤ 1099511620000) :
    Calls Tryd.prog 54 #[v, .int .i64 m] w fun e w' => ∃ v', e = .returned v' ∧ w'.ownsRow base 5 1 v' (n + 4) (xs ++ cellsL (be4 m)) ∧ w.grownBy w' v.ownBlock := by
  have HO := Lib.hid (ho.alloc (Obj.cells (cellsL (be4 m)).toArray 5))
  have hB := Bytes.lit (l := be4 m) (alloc_at w (Obj.cells (cellsL (be4 m)).toArray 5)) (be4_lt m)
  have he : (cellsL (be4 m)).toArray = #[Value.int IntKind.u8 ((m : Int) / 16777216 % 256), Value.int IntKind.u8 ((m : Int) / 65536 % 256), Value.int IntKind.u8 ((m : Int) / 256 % 256), Value.int IntKind.u8 ((m : Int) % 256)] := by simp [cellsL, be4]
  rw [he] at HO hB
  have HB := Lib.hid hB
  clear ho hB he
  go_enter Tryd.func54, Tryd.ntmps54
  go_wp2_with (at_builtin; refine wpList_appB (by rfl) (.tmp 5) (.tmp 17) 22 (by rfl) base 5 (.int .u8 0) 1 Tryd.underlying22 (by kernel_rfl) rfl (by decide) v n xs (by rfl) HO.out (.slice (some ⟨w.heap.size, 0, none⟩) 4 4) (be4 m) (by rfl) HB.out (Whole0.some _ _ _) (by show n + 4 ≤ _; omega) (by rw [alloc_size]; omega) ?_; intro v' w' ho' hg'; have HO' := Lib.hid ho'; have HG' := Lib.hid hg'; clear ho' hg')
  go_ret
  exact ⟨v', rfl, HO'.out, grown_trans (World.grownBy_alloc w _ _) HG'.out⟩
end Go.Proofs.YtgdnndapmcjoeaaDoor
namespace Go.Proofs.YtgdnndapmcjoeaaDoor
open Go.RowKit
/-- Slices of bytes in a slice: each part's value. -/
def PartsW (w : World) (sb so : Nat) (parts : List (List Nat)) : Prop :=
  ∀ i, i < parts.length → ∃ v, w.cell? ⟨sb, so + i, none⟩ = some v ∧ Bytes w v (parts.getD i []) ∧ Whole0 v
def fhead (W : List Nat) (n : Nat) : List Nat := W.length :: (W ++ [n])
def fbody : List (List Nat) → List Nat
  | [] => []
  | p :: r => be4 p.length ++ p ++ fbody r
def frameOf (W : List Nat) (parts : List (List Nat)) : List Nat := fhead W parts.length ++ fbody parts
theorem fbody_append (a b : List (List Nat)) : fbody (a ++ b) = fbody a ++ fbody b := by
  induction a with
  | nil => rfl
  | cons p r ih => simp [fbody, ih]
theorem fbody_take (parts : List (List Nat)) (k : Nat) (hk : k < parts.length) : fbody (parts.take (k + 1)) = fbody (parts.take k) ++ (be4 (parts.getD k []).length ++ parts.getD k []) := by
  rw [List.take_add_one, List.getElem?_eq_getElem hk, fbody_append]
  simp [fbody, List.getD_eq_getElem?_getD, List.getElem?_eq_getElem hk]
theorem fbody_len (parts : List (List Nat)) (h : ∀ p ∈ parts, p.length ≤ 65536) : (fbody parts).length ≤ 65540 * parts.length := by
  induction parts with
  | nil => simp [fbody]
  | cons p r ih =>
    have := ih (fun q hq => h q (by simp [hq]))
    have := h p (by simp)
    simp [fbody, be4]
    omega
theorem fbody_take_len (parts : List (List Nat)) (k : Nat) (hk : k ≤ parts.length) (h : ∀ j, j < k → (parts.getD j []).length ≤ 65536) : (fbody (parts.take k)).length ≤ 65540 * k := by
  have := fbody_len (parts.take k) (fun p hp => by
    obtain ⟨j, hj, rfl⟩ := List.mem_iff_getElem.1 hp
    have hj' : j < k := by simp at hj; omega
    have := h j hj'
    rw [List.getD_eq_getElem?_getD, List.getElem?_eq_getElem (by omega)] at this
    simpa using this)
  rwa [List.length_take, Nat.min_eq_left hk] at this
/-- The error's number: 0, or ErrText, or ErrLong. -/
def fErr (W : List Nat) (parts : List (List Nat)) : Nat :=
  if wordB W = false then 8 else if 16 < parts.length then 3 else if ∃ p ∈ parts, 65536 < p.length then 3 else 0
/-- From w on by growth; v is the call's own and holds l. -/
structure FrW (w w' : World) (v : Value) (l : List Nat) : Prop where
  grown : w.grownBy w' none
  own : w'.ownsRow w.heap.size 5 1 v l.length (cellsL l)
theorem FrW.alloc {w w' : World} {v : Value} {l : List Nat} (h : FrW w w' v l) (o : Obj) : FrW w (w'.alloc o) v l := ⟨grown_alloc h.grown o, h.own.alloc o⟩
theorem FrW.step {w b c : World} {v v' : Value} {l l' : List Nat} {n' : Nat} {xs : List Value} (h : FrW w b v l) (ho : c.ownsRow w.heap.size 5 1 v' n' xs) (hg : b.grownBy c v.ownBlock) (e : xs = cellsL l') : FrW w c v' l' := by
  subst e
  have hn : n' = l'.length := by have := ho.1; rw [cellsL_len] at this; omega
  subst hn
  exact ⟨grown_own h.grown h.own (Nat.le_refl _) hg, ho⟩
theorem FrW.le {w w' : World} {v : Value} {l : List Nat} (h : FrW w w' v l) : w.heap.size ≤ w'.heap.size := h.grown.size
theorem PartsW.grown {w w' : World} {sb so : Nat} {parts : List (List Nat)} (h : PartsW w sb so parts) (hb : 0 < parts.length → sb < w.heap.size) (hg : w.grownBy w' none) : PartsW w' sb so parts := fun i hi => by
  obtain ⟨v, h1, h2, h3⟩ := h i hi
  exact ⟨v, by rw [World.cell?_of_block (hg.block sb (hb (by omega)) (by simp))]; exact h1, h2.grown hg, h3⟩
theorem fhead_lt (W : List Nat) (n : Nat) (hW : ∀ x ∈ W, x < 256) (h : W.length < 256) (hn : n < 256) : ∀ x ∈ fhead W n, x < 256 := by
  intro x hx
  simp only [fhead, List.mem_cons, List.mem_append, List.not_mem_nil, or_false] at hx
  rcases hx with rfl | hx | rfl
  · exact h
  · exact hW x hx
  · exact hn
theorem fbody_lt (parts : List (List Nat)) (h : ∀ p ∈ parts, ∀ x ∈ p, x < 256) : ∀ x ∈ fbody parts, x < 256 := by
  induction parts with
  | nil => intro x hx; simp [fbody] at hx
  | cons p r ih =>
    intro x hx
    simp only [fbody, List.mem_append] at hx
    rcases hx with (hx | hx) | hx
    · exact be4_lt _ x hx
    · exact h p (by simp) x hx
    · exact ih (fun q hq => h q (by simp [hq])) x hx
end Go.Proofs.YtgdnndapmcjoeaaDoor
