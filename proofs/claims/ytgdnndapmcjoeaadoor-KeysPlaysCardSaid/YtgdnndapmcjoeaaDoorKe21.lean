import Derived.Test.YtgdnndapmcjoeaaDoorKe02
import Derived.Test.YtgdnndapmcjoeaaDoorKe03
import Derived.Test.YtgdnndapmcjoeaaDoorRows
import Derived.WalkKit
import Derived.WalkSpells
import Derived.WalkLawsBesides
import Derived.Deep.QuietTactic
import Derived.BigQuiet
import Derived.Laws.BitsAllLaws
import Derived.Lib.Hide
namespace Go.Proofs.YtgdnndapmcjoeaaDoor
open Go.RowKit
theorem u8_or_xor (x a b : Nat) (hx : x < 256) (ha : a < 256) (hb : b < 256) : bits .or .u8 (x : Int) (bits .xor .u8 (a : Int) (b : Int)) = ((x ||| (a ^^^ b) : Nat) : Int) := by
  rw [u8_xor_nat a b ha hb, u8_or_nat x _ hx (Nat.xor_lt_two_pow (n := 8) (by omega) (by omega))]
theorem xor_zero {a b : Nat} : a ^^^ b = 0 ↔ a = b := by
  constructor
  · intro h
    have : a ^^^ b ^^^ b = 0 ^^^ b := by rw [h]
    simpa [Nat.xor_assoc] using this
  · rintro rfl; simp
/-- What is unlike, all of it in one byte. -/
def unl : List Nat → List Nat → Nat → Nat
  | _, _, 0 => 0
  | A, B, k + 1 => unl A B k ||| (A.getD k 0 ^^^ B.getD k 0)
theorem getD_lt' {l : List Nat} (h : ∀ x ∈ l, x < 256) (k : Nat) : l.getD k 0 < 256 := by
  rw [List.getD_eq_getElem?_getD]
  cases e : l[k]? with
  | none => simp
  | some x => exact h x (List.mem_of_getElem? e)
theorem unl_lt {A B : List Nat} (hA : ∀ x ∈ A, x < 256) (hB : ∀ x ∈ B, x < 256) : ∀ k, unl A B k < 256
  | 0 => Nat.zero_lt_succ _
  | k + 1 => Nat.or_lt_two_pow (n := 8) (unl_lt hA hB k) (Nat.xor_lt_two_pow (n := 8) (getD_lt' hA k) (getD_lt' hB k))
theorem unl_zero (A B : List Nat) : ∀ k, unl A B k = 0 ↔ ∀ j, j < k → A.getD j 0 = B.getD j 0
  | 0 => by simp [unl]
  | k + 1 => by
    rw [unl, Nat.or_eq_zero_iff, unl_zero A B k, xor_zero]
    constructor
    · rintro ⟨h1, h2⟩ j hj
      rcases Nat.lt_or_ge j k with h | h
      · exact h1 j h
      · obtain rfl : j = k := by omega
        exact h2
    · intro h
      exact ⟨fun j hj => h j (by omega), h k (by omega)⟩
theorem unl_all {A B : List Nat} (h : A.length = B.length) : decide (unl A B A.length = 0) = decide (A = B) := by
  rw [decide_eq_decide, unl_zero]
  constructor
  · intro hh
    refine List.ext_getElem h fun i h1 h2 => ?_
    have := hh i h1
    simpa [h1, h2] using this
  · rintro rfl j _; rfl
end Go.Proofs.YtgdnndapmcjoeaaDoor
namespace Go.Proofs.YtgdnndapmcjoeaaDoor
open Go.RowKit
def letter (c : Nat) : Bool := decide ((97 ≤ c ∧ c ≤ 122) ∨ (48 ≤ c ∧ c ≤ 57) ∨ c = 45)
theorem ret_bool {a b : Bool} (h : a = b) : Ending.returned (.bool a) = .returned (.bool b) := by rw [h]
set_option maxRecDepth 100000 in
set_option maxHeartbeats 400000 in
theorem letter_any (c : Nat) (w : World) :
    Calls Tryd.prog 65 #[.int .u8 c] w fun e w' => e = .returned (.bool (letter c)) ∧ w' = w := by
  go_enter Tryd.func65, Tryd.ntmps65
  go_wp2
  all_goals (go_ret; exact ⟨ret_bool (by unfold letter; rw [Bool.eq_iff_iff]; simp; omega), rfl⟩)
theorem getD_get (l : List Nat) (j : Nat) (h : j < l.length) : l.getD j 0 = l[j] := by
  rw [List.getD_eq_getElem?_getD, List.getElem?_eq_getElem h]; rfl
/-- Which bytes are a word. -/
def wordB (l : List Nat) : Bool := decide (1 ≤ l.length ∧ l.length ≤ 32) && l.all letter
set_option maxRecDepth 100000 in
set_option maxHeartbeats 400000 in
theorem word_any (s : ByteArray) (hs : s.size ≤ 9223372036854775807) (w : World) :
    Calls Tryd.prog 53 #[.string s] w fun e w' => e = .returned (.bool (wordB (strL s))) ∧ w' = w := by
  obtain ⟨n, hn⟩ : ∃ n, n = s.size := ⟨_, rfl⟩
  have Hn := Lib.hid hn
  have hl : (strL s).length = n := by rw [strL_len, hn]
  go_enter Tryd.func53, Tryd.ntmps53
  by_cases hn0 : 1 ≤ n ∧ n ≤ 32
  · have d1 : decide ((s.size : Int) < 1) = false := by rw [← hn]; simp; omega
    have d2 : decide ((32 : Int) < (s.size : Int)) = false := by rw [← hn]; simp; omega
    go_wp2
    go_loopw [14] (fun i wr => ∃ k : Nat, k ≤ n ∧ i = .int .i64 k ∧ wr = w ∧ ∀ j, j < k → letter ((strL s).getD j 0) = true) (fun i _ => n - (intOf i).toNat)
    case atStart => exact ⟨0, Nat.zero_le _, rfl, rfl, fun j hj => absurd hj (Nat.not_lt_zero _)⟩
    case round =>
      obtain ⟨k, hk, rfl, rfl, hall⟩ := hrel
      have HA := Lib.hid hall
      clear hall
      by_cases hkn : k < n
      · have hks : k < s.size := by omega
        have hix : (Instr.index 9 (.string s) (.int .i64 (k : Int))).run Tryd.prog wr = .ok (.int .u8 ((strL s).getD k 0 : Nat)) wr := by
          rw [run_index_string wr _ s .i64 k Tryd.underlying9, dif_pos ⟨by omega, by omega⟩, ← strL_getD s k hks]
          rfl
        have HL := Lib.hid (letter_any ((strL s).getD k 0) wr)
        have hlt : (k : Int) < (s.size : Int) := by omega
        clear hks d1 d2
        cases hb : letter ((strL s).getD k 0)
        · go_wp2_with (go_at_call 65; refine HL.out.mono ?_; rintro e w2 ⟨rfl, rfl⟩; simp only [hb])
          go_ret
          refine ⟨ret_bool ?_, rfl⟩
          rw [eq_comm, wordB, Bool.and_eq_false_iff]
          right
          rw [← Bool.not_eq_true, List.all_eq_true]
          intro h
          have := h ((strL s).getD k 0) (by rw [getD_get _ _ (by omega)]; exact List.getElem_mem _)
          rw [hb] at this
          cases this
        · go_wp2_with (go_at_call 65; refine HL.out.mono ?_; rintro e w2 ⟨rfl, rfl⟩; simp only [hb])
          go_roundw
          case rel =>
            refine ⟨k + 1, by omega, by go_num, trivial, fun j hj => ?_⟩
            rcases Nat.lt_or_ge j k with h | h
            · exact HA.out j h
            · obtain rfl : j = k := by omega
              exact hb
          case measure => simp [intOf]; omega
      · obtain rfl : k = n := by omega
        have hlt : ¬ ((k : Int) < (s.size : Int)) := by omega
        go_wp2
        go_ret
        refine ⟨ret_bool ?_, rfl⟩
        rw [eq_comm, wordB, Bool.and_eq_true, decide_eq_true_eq, hl]
        refine ⟨hn0, ?_⟩
        rw [List.all_eq_true]
        intro x hx
        obtain ⟨j, hj, rfl⟩ := List.mem_iff_getElem.1 hx
        have := HA.out j (by omega)
        rwa [getD_get _ _ hj] at this
  · have hw : wordB (strL s) = false := by
      rw [wordB, Bool.and_eq_false_iff]
      left
      rw [hl]
      exact decide_eq_false hn0
    rw [hw]
    by_cases h1 : n < 1
    · have d1 : decide ((s.size : Int) < 1) = true := by rw [← hn]; simp; omega
      go_wp2
      go_ret
      exact ⟨rfl, rfl⟩
    · have d1 : decide ((s.size : Int) < 1) = false := by rw [← hn]; simp; omega
      have d2 : decide ((32 : Int) < (s.size : Int)) = true := by rw [← hn]; simp; omega
      go_wp2
      go_ret
      exact ⟨rfl, rfl⟩
end Go.Proofs.YtgdnndapmcjoeaaDoor
namespace Go.Proofs.YtgdnndapmcjoeaaDoor
open Go.RowKit
def be4 (n : Nat) : List Nat := [n / 16777216 % 256, n / 65536 % 256, n / 256 % 256, n % 256]
theorem be4_lt (n : Nat) : ∀ x ∈ be4 n, x < 256 := by
  intro x hx
  simp only [be4, List.mem_cons, List.not_mem_nil, or_false] at hx
  rcases hx with rfl | rfl | rfl | rfl <;> exact Nat.mod_lt _ (by decide)
set_option maxRecDepth 100000 in
set_option maxHeartbeats 400000 in
theorem size_any (v : Value) (n m base : Nat) (xs : List Value) (w : World) (ho : w.ownsRow base 5 1 v n xs) (hb : base ≤ w.heap.size) (hn : n ≤ 1099511620000) (_hm : m ≤ 1099511620000) :
    Calls Tryd.prog 54 #[v, .int .i64 m] w fun e w' => ∃ v', e = .returned v' ∧ w'.ownsRow base 5 1 v' (n + 4) (xs ++ cellsL (be4 m)) ∧ w.grownBy w' v.ownBlock := by
  have HO := Lib.hid (ho.alloc (Obj.cells (cellsL (be4 m)).toArray 5))
  have hB := Bytes.lit (l := be4 m) (alloc_at w (Obj.cells (cellsL (be4 m)).toArray 5)) (be4_lt m)
  have he : (cellsL (be4 m)).toArray = #[Value.int IntKind.u8 ((m : Int) / 16777216 % 256), Value.int IntKind.u8 ((m : Int) / 65536 % 256), Value.int IntKind.u8 ((m : Int) / 256 % 256), Value.int IntKind.u8 ((m : Int) % 256)] := by simp [cellsL, be4]
  rw [he] at HO hB
  have HB := Lib.hid hB
  clear ho hB he
  go_enter Tryd.func54, Tryd.ntmps54
  go_wp2_with (at_builtin; refine wpList_appB (by rfl) (.tmp 5) (.tmp 17) 22 (by rfl) base 5 (.int .u8 0) 1 Tryd.underlying22 (by kernel_rfl) rfl (by decide) v n xs (by rfl) HO.out (.slice (some ⟨w.heap.size, 0, none⟩) 4 4) (be4 m) (by rfl) HB.out (Whole0.some _ _ _) (by show n + 4 ≤ _; omega) (by rw [alloc_size]; omega) ?_; intro v' w' ho' hg'; have HO' := Lib.hid ho'; have HG' := Lib.hid hg'; clear ho' hg')
  go_ret
  exact ⟨v', rfl, HO'.out, grown_trans (World.grownBy_alloc w _ _) HG'.out⟩
end Go.Proofs.YtgdnndapmcjoeaaDoor
namespace Go.Proofs.YtgdnndapmcjoeaaDoor
open Go.RowKit
/-- Slices of bytes in a slice: each part's value. -/
def PartsW (w : World) (sb so : Nat) (parts : List (List Nat)) : Prop :=
  ∀ i, i < parts.length → ∃ v, w.cell? ⟨sb, so + i, none⟩ = some v ∧ Bytes w v (parts.getD i []) ∧ Whole0 v
def fhead (W : List Nat) (n : Nat) : List Nat := W.length :: (W ++ [n])
def fbody : List (List Nat) → List Nat
  | [] => []
  | p :: r => be4 p.length ++ p ++ fbody r
def frameOf (W : List Nat) (parts : List (List Nat)) : List Nat := fhead W parts.length ++ fbody parts
theorem fbody_append (a b : List (List Nat)) : fbody (a ++ b) = fbody a ++ fbody b := by
  induction a with
  | nil => rfl
  | cons p r ih => simp [fbody, ih]
theorem fbody_take (parts : List (List Nat)) (k : Nat) (hk : k < parts.length) : fbody (parts.take (k + 1)) = fbody (parts.take k) ++ (be4 (parts.getD k []).length ++ parts.getD k []) := by
  rw [List.take_add_one, List.getElem?_eq_getElem hk, fbody_append]
  simp [fbody, List.getD_eq_getElem?_getD, List.getElem?_eq_getElem hk]
theorem fbody_len (parts : List (List Nat)) (h : ∀ p ∈ parts, p.length ≤ 65536) : (fbody parts).length ≤ 65540 * parts.length := by
  induction parts with
  | nil => simp [fbody]
  | cons p r ih =>
    have := ih (fun q hq => h q (by simp [hq]))
    have := h p (by simp)
    simp [fbody, be4]
    omega
theorem fbody_take_len (parts : List (List Nat)) (k : Nat) (hk : k ≤ parts.length) (h : ∀ j, j < k → (parts.getD j []).length ≤ 65536) : (fbody (parts.take k)).length ≤ 65540 * k := by
  have := fbody_len (parts.take k) (fun p hp => by
    obtain ⟨j, hj, rfl⟩ := List.mem_iff_getElem.1 hp
    have hj' : j < k := by simp at hj; omega
    have := h j hj'
    rw [List.getD_eq_getElem?_getD, List.getElem?_eq_getElem (by omega)] at this
    simpa using this)
  rwa [List.length_take, Nat.min_eq_left hk] at this
/-- The error's number: 0, or ErrText, or ErrLong. -/
def fErr (W : List Nat) (parts : List (List Nat)) : Nat :=
  if wordB W = false then 8 else if 16 < parts.length then 3 else if ∃ p ∈ parts, 65536 < p.length then 3 else 0
/-- From w on by growth; v is the call's own and holds l. -/
structure FrW (w w' : World) (v : Value) (l : List Nat) : Prop where
  grown : w.grownBy w' none
  own : w'.ownsRow w.heap.size 5 1 v l.length (cellsL l)
theorem FrW.alloc {w w' : World} {v : Value} {l : List Nat} (h : FrW w w' v l) (o : Obj) : FrW w (w'.alloc o) v l := ⟨grown_alloc h.grown o, h.own.alloc o⟩
theorem FrW.step {w b c : World} {v v' : Value} {l l' : List Nat} {n' : Nat} {xs : List Value} (h : FrW w b v l) (ho : c.ownsRow w.heap.size 5 1 v' n' xs) (hg : b.grownBy c v.ownBlock) (e : xs = cellsL l') : FrW w c v' l' := by
  subst e
  have hn : n' = l'.length := by have := ho.1; rw [cellsL_len] at this; omega
  subst hn
  exact ⟨grown_own h.grown h.own (Nat.le_refl _) hg, ho⟩
theorem FrW.le {w w' : World} {v : Value} {l : List Nat} (h : FrW w w' v l) : w.heap.size ≤ w'.heap.size := h.grown.size
theorem PartsW.grown {w w' : World} {sb so : Nat} {parts : List (List Nat)} (h : PartsW w sb so parts) (hb : 0 < parts.length → sb < w.heap.size) (hg : w.grownBy w' none) : PartsW w' sb so parts := fun i hi => by
  obtain ⟨v, h1, h2, h3⟩ := h i hi
  exact ⟨v, by rw [World.cell?_of_block (hg.block sb (hb (by omega)) (by simp))]; exact h1, h2.grown hg, h3⟩
theorem fhead_lt (W : List Nat) (n : Nat) (hW : ∀ x ∈ W, x < 256) (h : W.length < 256) (hn : n < 256) : ∀ x ∈ fhead W n, x < 256 := by
  intro x hx
  simp only [fhead, List.mem_cons, List.mem_append, List.not_mem_nil, or_false] at hx
  rcases hx with rfl | hx | rfl
  · exact h
  · exact hW x hx
  · exact hn
theorem fbody_lt (parts : List (List Nat)) (h : ∀ p ∈ parts, ∀ x ∈ p, x < 256) : ∀ x ∈ fbody parts, x < 256 := by
  induction parts with
  | nil => intro x hx; simp [fbody] at hx
  | cons p r ih =>
    intro x hx
    simp only [fbody, List.mem_append] at hx
    rcases hx with (hx | hx) | hx
    · exact be4_lt _ x hx
    · exact h p (by simp) x hx
    · exact ih (fun q hq => h q (by simp [hq])) x hx
end Go.Proofs.YtgdnndapmcjoeaaDoor
namespace Go.Proofs.YtgdnndapmcjoeaaDoor
open Go.RowKit
/-- What the two errors' variables hold. -/
structure Errs (w : World) (eT eL : Value) : Prop where
  text : w.cell? ⟨7, 0, none⟩ = some eT
  long : w.cell? ⟨1, 0, none⟩ = some eL
  size : 7 < w.heap.size ∧ 1 < w.heap.size
theorem Errs.grown {w w' : World} {eT eL : Value} (h : Errs w eT eL) (hg : w.grownBy w' none) : Errs w' eT eL :=
  ⟨by rw [World.cell?_of_block (hg.block _ h.size.1 (by simp))]; exact h.text, by rw [World.cell?_of_block (hg.block _ h.size.2 (by simp))]; exact h.long, Nat.lt_of_lt_of_le h.size.1 hg.size, Nat.lt_of_lt_of_le h.size.2 hg.size⟩
/-- What Frame answers. -/
def FramePost (w : World) (s : ByteArray) (parts : List (List Nat)) (eT eL : Value) (e : Ending) (w' : World) : Prop :=
  w.grownBy w' none ∧ ∃ v u, e = .returned (.tuple #[v, u]) ∧
    ((fErr (strL s) parts = 0 ∧ u = .nilIface ∧ FrW w w' v (frameOf (strL s) parts)) ∨
     (fErr (strL s) parts = 8 ∧ v = .slice none 0 0 ∧ u = eT) ∨
     (fErr (strL s) parts = 3 ∧ v = .slice none 0 0 ∧ u = eL))
set_option maxRecDepth 100000 in
set_option maxHeartbeats 1000000 in
theorem frame_any (s : ByteArray) (parts : List (List Nat)) (a : Option Addr) (sb so n c : Nat) (hn : parts.length = n) (w : World) (ha : 0 < n → a = some ⟨sb, so, none⟩ ∧ sb < w.heap.size) (hP : PartsW w sb so parts)
    (hs : s.size ≤ 1099511620000) (hnn : n ≤ 1099511620000) (eT eL : Value) (hE : Errs w eT eL) :
    Calls Tryd.prog 42 #[.string s, .slice a n c] w (FramePost w s parts eT eL) := by
  have cT := hE.text
  have cL := hE.long
  have HE := Lib.hid hE
  clear hE
  obtain ⟨m, hm⟩ : ∃ m, m = s.size := ⟨_, rfl⟩
  have Hm := Lib.hid hm
  have Hn := Lib.hid hn
  have Ha := Lib.hid ha
  have HP := Lib.hid hP
  have hword := word_any s (by omega)
  have HW := Lib.hid hword
  clear hword hn ha hP
  cases hwB : wordB (strL s)
  · have HB := Lib.hid hwB
    go_enter Tryd.func42, Tryd.ntmps42
    go_wp2_with (go_at_call 53; refine (HW.out _).mono ?_; rintro e w2 ⟨rfl, rfl⟩; simp only [hwB])
    go_quiet (fail)
    go_wp2
    go_ret2
    exact ⟨grown_drewN (grown_refl _ _) _, _, _, rfl, .inr (.inl ⟨by rw [fErr, if_pos HB.out], rfl, rfl⟩)⟩
  · have HB := Lib.hid hwB
    by_cases hn16 : n ≤ 16
    · have d1 : ¬ ((16 : Int) < (n : Int)) := by omega
      have hm32 : m ≤ 32 ∧ 1 ≤ m := by
        have := hwB
        rw [wordB, Bool.and_eq_true, decide_eq_true_eq, strL_len, ← hm] at this
        omega
      have HM32 := Lib.hid hm32
      obtain ⟨M, hM⟩ : ∃ M, M = (fhead (strL s) n).length := ⟨_, rfl⟩
      have hM2 : M = m + 2 := by rw [hM, fhead, List.length_cons, List.length_append, strL_len, ← hm]; rfl
      have HM2 := Lib.hid hM2
      have e0 : (s.size : Int) = (m : Int) := by rw [hm]
      clear hM hM2 hwB hs hnn hm
      go_enter Tryd.func42, Tryd.ntmps42
      go_wp2_with (go_at_call 53; refine (HW.out _).mono ?_; rintro e w2 ⟨rfl, hw2⟩; have hw3 := hw2.symm; subst hw3; simp only [HB.out])
      go_loopw [6, 26] (fun x i wr => ∃ k : Nat, k ≤ n ∧ i = .int .i64 k ∧ x = .int .i64 (m + 2 + (fbody (parts.take k)).length : Nat) ∧ wr = w ∧ ∀ j, j < k → (parts.getD j []).length ≤ 65536) (fun _ i _ => n - (intOf i).toNat)
      case atStart => exact ⟨0, Nat.zero_le _, rfl, by simp only [fbody, List.take_zero, List.length_nil]; go_num, rfl, fun j hj => absurd hj (Nat.not_lt_zero _)⟩
      case round =>
        obtain ⟨k, hk, rfl, rfl, hwr, hall⟩ := hrel
        have hwr' := hwr.symm
        subst hwr'
        clear hwr
        have hlen := fbody_take_len parts k (by rw [Hn.out]; exact hk) hall
        have HA := Lib.hid hall
        have HLn := Lib.hid hlen
        have hb1 : (fbody (parts.take k)).length ≤ 65540 * 16 := Nat.le_trans hlen (Nat.mul_le_mul_left _ (by omega))
        have HBT := Lib.hid (fbody_take parts k)
        clear hall hlen
        by_cases hkn : k < n
        · obtain ⟨rfl, ha2⟩ := Ha.out (by omega)
          obtain ⟨pv, hpc, hBy, hW0⟩ := HP.out k (by rw [Hn.out]; exact hkn)
          have hBT := HBT.out (by rw [Hn.out]; exact hkn)
          obtain ⟨q, hq⟩ : ∃ q, q = parts.getD k [] := ⟨_, rfl⟩
          rw [← hq] at hBy hBT
          have hl2 : (fbody (parts.take (k + 1))).length = (fbody (parts.take k)).length + (4 + q.length) := by rw [hBT, List.length_append, List.length_append]; rfl
          obtain ⟨_, pa, psb, pso, pc, rfl, hpc2, _, _⟩ := hBy
          have HL2 := Lib.hid hl2
          have Hq := Lib.hid hq
          clear hBT hq hW0 hl2
          generalize (fbody (parts.take k)).length = L at *
          obtain ⟨ql, hql⟩ : ∃ ql, ql = q.length := ⟨_, rfl⟩
          rw [← hql] at hpc hpc2 HL2
          have HQL := Lib.hid hql
          clear hql
          by_cases hbig : 65536 < ql
          · have HF : Hid (fErr (strL s) parts = 3) := Lib.hid (by
              rw [fErr, if_neg (by rw [HB.out]; simp), if_neg (by rw [Hn.out]; omega), if_pos]
              refine ⟨q, ?_, by rw [← HQL.out]; exact hbig⟩
              rw [Hq.out, List.getD_eq_getElem?_getD, List.getElem?_eq_getElem (by rw [Hn.out]; exact hkn)]
              exact List.getElem_mem _)
            go_wp2
            go_quiet (fail)
            go_wp2
            go_ret2
            exact ⟨grown_drewN (grown_refl _ _) _, _, _, rfl, .inr (.inr ⟨HF.out, rfl, rfl⟩)⟩
          · go_wp2
            go_roundw
            case rel =>
              refine ⟨k + 1, by omega, by go_num, ?_, trivial, fun j hj => ?_⟩
              · rw [HL2.out]; go_num
              · rcases Nat.lt_or_ge j k with h | h
                · exact HA.out j h
                · obtain rfl : j = k := by omega
                  rw [← Hq.out, ← HQL.out]; omega
            case measure => simp [intOf]; omega
        · obtain rfl : k = n := by omega
          obtain ⟨L, hL⟩ : ∃ L, L = (fbody (parts.take k)).length := ⟨_, rfl⟩
          rw [← hL] at hb1 ⊢
          clear hL
          obtain ⟨iT, i1, i2, i3, i4⟩ := info_parts (P := Tryd.prog) (e := 5) (z := .int .u8 0) (size := 1) (bytes := 1) (by kernel_rfl)
          have Hi1 := Lib.hid i1
          have Hi2 := Lib.hid i2
          have Hi3 := Lib.hid i3
          have Hi4 := Lib.hid i4
          clear i1 i2 i3 i4
          go_wp2_with (first
            | (refine wpList_make_own _ (by rfl) (.const (.int .i64 0)) (.tmp 40) 22 (by rfl) w.heap.size 5 iT (.int .u8 0) 1 Tryd.underlying22 Hi1.out Hi2.out Hi3.out .i64 .i64 _ (m + 2 + L) (by rfl) (by rfl) (by go_num) (by rw [Hi4.out]; omega) (by unfold maxLen; omega) (Nat.le_refl _) ?_; intro w1 ho1 hg1; have F1 := Lib.hid (FrW.mk (l := []) hg1 ho1); clear ho1 hg1)
            | (at_builtin; refine wpList_app1 (by rfl) (.tmp 42) (.tmp 46) 22 (by rfl) w.heap.size 5 (.int .u8 0) 1 Tryd.underlying22 (by kernel_rfl) rfl (by decide) _ 0 [] (by rfl) (F1.out.own.alloc _) ⟨w1.heap.size, 0, none⟩ _ (by rfl) (cell_blk (alloc_at _ _) 0 rfl) rfl (by omega) (by have := F1.out.le; rw [alloc_size]; omega) ?_; intro v2 w2 ho2 hg2; have F2 := Lib.hid ((F1.out.alloc _).step (l' := [m]) ho2 hg2 rfl); clear ho2 hg2)
            | (at_builtin; refine wpList_appS (by rfl) (.tmp 48) (.tmp 49) 22 9 (by rfl) w.heap.size 5 Tryd.underlying22 Tryd.underlying9 (by kernel_rfl) v2 1 (cellsL [m]) (by rfl) F2.out.own s (by rfl) (by omega) F2.out.le ?_; intro v3 w3 ho3 hg3; have F3 := Lib.hid (F2.out.step (l' := m :: strL s) ho3 hg3 rfl); clear ho3 hg3)
            | (at_builtin; refine wpList_app1 (by rfl) (.tmp 51) (.tmp 55) 22 (by rfl) w.heap.size 5 (.int .u8 0) 1 Tryd.underlying22 (by kernel_rfl) rfl (by decide) v3 (m :: strL s).length (cellsL (m :: strL s)) (by rfl) (F3.out.own.alloc _) ⟨w3.heap.size, 0, none⟩ _ (by rfl) (cell_blk (alloc_at _ _) 0 rfl) rfl (by rw [List.length_cons, strL_len]; omega) (by have := F3.out.le; rw [alloc_size]; omega) ?_; intro v4 w4 ho4 hg4; have F4 := Lib.hid ((F3.out.alloc _).step (l' := fhead (strL s) k) ho4 hg4 (by rw [fhead, strL_len, ← Hm.out]; simp [cellsL])); clear ho4 hg4))
          have hLf : Hid ((fhead (strL s) k).length = m + 2) := Lib.hid (by rw [fhead, List.length_cons, List.length_append, strL_len, ← Hm.out]; rfl)
          go_loopw [9, 59] (fun x i wr => ∃ j : Nat, j ≤ k ∧ i = .int .i64 j ∧ FrW w wr x (fhead (strL s) k ++ fbody (parts.take j))) (fun _ i _ => k - (intOf i).toNat)
          case atStart => exact ⟨0, Nat.zero_le _, rfl, by simpa [fbody] using F4.out⟩
          case round =>
            obtain ⟨j, hj, rfl, hF⟩ := hrel
            have hlen := fbody_take_len parts j (by rw [Hn.out]; exact hj) (fun i hi => HA.out i (by omega))
            have hb2 : (fhead (strL s) k ++ fbody (parts.take j)).length ≤ 1048700 := by
              rw [List.length_append, hLf.out]
              have : 65540 * j ≤ 65540 * 16 := Nat.mul_le_mul_left _ (by omega)
              omega
            have HF := Lib.hid hF
            clear hlen
            by_cases hjk : j < k
            · obtain ⟨rfl, ha2⟩ := Ha.out (by omega)
              obtain ⟨pv, hpc, hBy, hW0⟩ := HP.out j (by rw [Hn.out]; exact hjk)
              have hc1 : wr.cell? ⟨sb, so + j, none⟩ = some pv := by rw [World.cell?_of_block (hF.grown.block sb ha2 (by simp))]; exact hpc
              have hq65 := HA.out j hjk
              have hft := fbody_take parts j (by rw [Hn.out]; exact hjk)
              obtain ⟨q, hq⟩ : ∃ q, q = parts.getD j [] := ⟨_, rfl⟩
              rw [← hq] at hBy hft hq65
              have HX : Hid (fhead (strL s) k ++ fbody (parts.take (j + 1)) = fhead (strL s) k ++ fbody (parts.take j) ++ be4 q.length ++ q) := Lib.hid (by rw [hft]; simp [List.append_assoc])
              have HBy := Lib.hid hBy
              have HW0 := Lib.hid hW0
              clear hq hft hW0 hF
              generalize fhead (strL s) k ++ fbody (parts.take j) = X at *
              obtain ⟨_, pa, psb, pso, pc, rfl, hpc2, _, _⟩ := hBy
              obtain ⟨ql, hql⟩ : ∃ ql, ql = q.length := ⟨_, rfl⟩
              have HQL := Lib.hid hql
              rw [← hql] at hpc hpc2 hc1 hq65 HBy HW0 HX
              clear hql hpc hpc2
              go_wp2_with (first
                | (go_at_call 54; refine (size_any u9 X.length ql w.heap.size (cellsL X) _ HF.out.own HF.out.le (by omega) (by omega)).mono ?_; rintro e w5 ⟨v5, rfl, ho5, hg5⟩; have F5 := Lib.hid (HF.out.step (l' := X ++ be4 ql) ho5 hg5 (cellsL_append _ _).symm); clear ho5 hg5)
                | (at_builtin; refine wpList_appB (by rfl) (.tmp 67) (.tmp 68) 22 (by rfl) w.heap.size 5 (.int .u8 0) 1 Tryd.underlying22 (by kernel_rfl) rfl (by decide) v5 (X ++ be4 ql).length (cellsL (X ++ be4 ql)) (by rfl) F5.out.own _ q (by rfl) (HBy.out.grown F5.out.grown) HW0.out (by rw [List.length_append, ← HQL.out]; show X.length + 4 + ql ≤ _; omega) F5.out.le ?_; intro v6 w6 ho6 hg6; have F6 := Lib.hid (F5.out.step (l' := X ++ be4 ql ++ q) ho6 hg6 (cellsL_append _ _).symm); clear ho6 hg6))
              go_roundw
              case rel => exact ⟨j + 1, by omega, by go_num, by rw [HX.out]; exact F6.out⟩
              case measure => simp [intOf]; omega
            · obtain rfl : j = k := by omega
              clear hF
              go_wp2
              go_ret2
              refine ⟨HF.out.grown, _, _, rfl, .inl ⟨?_, rfl, ?_⟩⟩
              · rw [fErr, if_neg (by rw [HB.out]; simp), if_neg (by rw [Hn.out]; omega), if_neg]
                rintro ⟨p, hp, hpl⟩
                obtain ⟨i, hi, rfl⟩ := List.mem_iff_getElem.1 hp
                have := HA.out i (by rw [← Hn.out]; exact hi)
                rw [List.getD_eq_getElem?_getD, List.getElem?_eq_getElem hi] at this
                simp at this
                omega
              · rw [frameOf, Hn.out]
                have := HF.out
                rwa [List.take_of_length_le (by rw [Hn.out]; exact Nat.le_refl _)] at this
    · have HF : Hid (fErr (strL s) parts = 3) := Lib.hid (by rw [fErr, if_neg (by rw [hwB]; simp), if_pos (by rw [Hn.out]; omega)])
      have d1 : (16 : Int) < (n : Int) := by omega
      go_enter Tryd.func42, Tryd.ntmps42
      go_wp2_with (go_at_call 53; refine (HW.out _).mono ?_; rintro e w2 ⟨rfl, rfl⟩; simp only [hwB])
      go_quiet (fail)
      go_wp2
      go_ret2
      exact ⟨grown_drewN (grown_refl _ _) _, _, _, rfl, .inr (.inr ⟨HF.out, rfl, rfl⟩)⟩
end Go.Proofs.YtgdnndapmcjoeaaDoor
namespace Go.Proofs.YtgdnndapmcjoeaaDoor
open Go.RowKit
theorem frame_lt (W : List Nat) (parts : List (List Nat)) (h0 : fErr W parts = 0) (hW : ∀ x ∈ W, x < 256) (hp : ∀ p ∈ parts, ∀ x ∈ p, x < 256) : ∀ x ∈ frameOf W parts, x < 256 := by
  have hw : wordB W = true := by
    cases h : wordB W
    · rw [fErr, if_pos h] at h0; cases h0
    · rfl
  have hn : ¬ 16 < parts.length := fun h => by
    rw [fErr, if_neg (by rw [hw]; simp), if_pos h] at h0; cases h0
  rw [wordB, Bool.and_eq_true, decide_eq_true_eq] at hw
  intro x hx
  rw [frameOf, List.mem_append] at hx
  rcases hx with hx | hx
  · exact fhead_lt W parts.length hW (by omega) (by omega) x hx
  · exact fbody_lt parts hp x hx
end Go.Proofs.YtgdnndapmcjoeaaDoor
namespace Go.Proofs.YtgdnndapmcjoeaaDoor
open Go.RowKit
end Go.Proofs.YtgdnndapmcjoeaaDoor
namespace Go.Proofs.YtgdnndapmcjoeaaDoor
theorem parts_of_fErr {W : List Nat} {A : List (List Nat)} (h : fErr W A = 0) : (∀ p ∈ A, p.length ≤ 65536) ∧ A.length ≤ 16 ∧ W.length ≤ 32 := by
  unfold fErr at h
  cases hw : wordB W
  · rw [if_pos hw] at h; cases h
  · rw [if_neg (by rw [hw]; simp)] at h
    by_cases h1 : 16 < A.length
    · rw [if_pos h1] at h; cases h
    · rw [if_neg h1] at h
      by_cases h2 : ∃ p ∈ A, 65536 < p.length
      · rw [if_pos h2] at h; cases h
      · rw [wordB, Bool.and_eq_true, decide_eq_true_eq] at hw
        exact ⟨fun p hp => Nat.le_of_not_lt fun hh => h2 ⟨p, hp, hh⟩, by omega, by omega⟩
end Go.Proofs.YtgdnndapmcjoeaaDoor
namespace Go.Proofs.YtgdnndapmcjoeaaDoor
open Go.RowKit
set_option maxRecDepth 100000 in
set_option maxHeartbeats 1000000 in
theorem same_any (v u : Value) (A B : List Nat) (w : World) (hA : Bytes w v A) (hB : Bytes w u B) (hm : A.length ≤ 1152921504606846976) (hm2 : B.length ≤ 1152921504606846976) :
    Calls Tryd.prog 34 #[v, u] w fun e w' => e = .returned (.bool (decide (A = B))) ∧ ∃ m, w' = w.drewN m := by
  obtain ⟨hA1, a, sa, oa, ca, rfl, hca, haa, hcA⟩ := hA
  obtain ⟨hB1, b, sb, ob, cb, rfl, hcb, hbb, hcB⟩ := hB
  obtain ⟨n, hn⟩ : ∃ n, n = A.length := ⟨_, rfl⟩
  obtain ⟨m, hm'⟩ : ∃ n, n = B.length := ⟨_, rfl⟩
  rw [← hn] at hca haa hcA hm ⊢
  rw [← hm'] at hcb hbb hcB hm2 ⊢
  have Hn := Lib.hid hn
  have Hm := Lib.hid hm'
  have HcA := Lib.hid hcA
  have HcB := Lib.hid hcB
  have Haa := Lib.hid haa
  have Hbb := Lib.hid hbb
  have HA := Lib.hid hA1
  have HB := Lib.hid hB1
  clear hn hm' hcA hcB haa hbb hA1 hB1
  go_enter Tryd.func34, Tryd.ntmps34
  by_cases hnm : n = m
  · subst hnm
    have hne : ((n : Int) != (n : Int)) = false := by simp
    go_wp2
    go_loopw [5, 14] (fun x i wr => ∃ k : Nat, k ≤ n ∧ i = .int .i64 k ∧ x = .int .u8 (unl A B k : Nat) ∧ ∃ q, wr = w.drewN q) (fun _ i _ => n - (intOf i).toNat)
    case atStart => exact ⟨0, Nat.zero_le _, rfl, rfl, 0, rfl⟩
    case round =>
      obtain ⟨k, hk, rfl, rfl, q, rfl⟩ := hrel
      by_cases hkn : k < n
      · obtain ⟨rfl, ha2⟩ := Haa.out (by omega)
        obtain ⟨rfl, hb2⟩ := Hbb.out (by omega)
        have c1 : w.cell? ⟨sa, oa + k, none⟩ = some (.int .u8 (A.getD k 0 : Nat)) := HcA.out k hkn
        have c2 : w.cell? ⟨sb, ob + k, none⟩ = some (.int .u8 (B.getD k 0 : Nat)) := HcB.out k (by omega)
        have hx := unl_lt HA.out HB.out k
        have h1 := getD_lt' HA.out k
        have h2 := getD_lt' HB.out k
        have HU := Lib.hid (u8_or_xor _ _ _ hx h1 h2)
        have HU2 : Hid (unl A B (k + 1) = unl A B k ||| (A.getD k 0 ^^^ B.getD k 0)) := Lib.hid rfl
        generalize unl A B k = x at *
        generalize A.getD k 0 = y at *
        generalize B.getD k 0 = z at *
        go_wp2
        go_quiet (fail)
        go_wp2
        go_roundw
        case rel => exact ⟨k + 1, by omega, by go_num, by rw [HU2.out, ← HU.out], _, rfl⟩
        case measure => simp [intOf]; omega
      · obtain rfl : k = n := by omega
        go_wp2
        go_ret
        refine ⟨?_, q, rfl⟩
        have := unl_all (A := A) (B := B) (by rw [← Hn.out, ← Hm.out])
        rw [← this, ← Hn.out]
        show Ending.returned (.bool _) = Ending.returned (.bool _)
        refine congrArg (fun b => Ending.returned (.bool b)) ?_
        rw [Bool.eq_iff_iff]; simp
  · have hne : ((n : Int) != (m : Int)) = true := by simp; omega
    go_wp2
    go_ret
    refine ⟨?_, 0, rfl⟩
    show Ending.returned (.bool false) = _
    rw [decide_eq_false (fun e : A = B => hnm (by rw [Hn.out, Hm.out, e]))]
end Go.Proofs.YtgdnndapmcjoeaaDoor
namespace Go.Proofs.YtgdnndapmcjoeaaDoor
open Go.RowKit
def marks : List Nat := [201, 202, 203, 204, 205, 206]
/-- The bytes and the marks behind them, in one block. -/
def Room (w : World) (g : Nat) (l : List Nat) : Prop := ∀ j, j < l.length + 6 → w.cell? ⟨g, j, none⟩ = some (.int .u8 ((l ++ marks).getD j 0 : Nat))
theorem Room.grown {w w' : World} {g : Nat} {l : List Nat} {row : Option Nat} (h : Room w g l) (hb : g < w.heap.size) (hg : w.grownBy w' row) (hne : some g ≠ row) : Room w' g l := fun j hj => by
  rw [World.cell?_of_block (hg.block g hb hne)]; exact h j hj
theorem Room.bytes {w : World} {g c : Nat} {l : List Nat} (h : Room w g l) (hl : ∀ x ∈ l, x < 256) (hb : g < w.heap.size) (hc : l.length ≤ c) : Bytes w (.slice (some ⟨g, 0, none⟩) l.length c) l :=
  ⟨hl, _, g, 0, c, rfl, hc, fun _ => ⟨rfl, hb⟩, fun j hj => by rw [Nat.zero_add, h j (by omega)]; simp [List.getD_eq_getElem?_getD, List.getElem?_append_left hj]⟩
end Go.Proofs.YtgdnndapmcjoeaaDoor
