import Derived.Test.YtihioekepflpiaaGreatDoorZb01
import Derived.Test.YtihioekepflpiaaGreatDoorZb02
import Derived.Test.YtihioekepflpiaaGreatDoorZb03
import Derived.Test.YtihioekepflpiaaGreatDoorZb11
import Derived.Test.YtihioekepflpiaaGreatDoorZb19
import Derived.Test.YtihioekepflpiaaGreatDoorZb24
set_option linter.unusedVariables false
set_option linter.unusedSimpArgs false
namespace Go.Proofs.YtihioekepflpiaaGreatDoor
open Go.RowKit
namespace Od
def rest : List Int → List Nat
  | [] => []
  | n :: r => sept n.toNat ++ rest r
/-- Right arcs' body. -/
def put (l : List Int) : List Nat := sept (40 * (l.getD 0 0).toNat + (l.getD 1 0).toNat) ++ rest (l.drop 2)
end Od
end Go.Proofs.YtihioekepflpiaaGreatDoor
namespace Go.Proofs.YtihioekepflpiaaGreatDoor
namespace Od
/-- The bytes ahead of a number's last one. -/
def hiF : Nat → Nat → List Nat
  | 0, _ => []
  | f + 1, m => if m = 0 then [] else hiF f (m / 128) ++ [m % 128 + 128]
def hi (m : Nat) : List Nat := hiF 10 m
end Od
end Go.Proofs.YtihioekepflpiaaGreatDoor
namespace Go.Proofs.YtihioekepflpiaaGreatDoor
open Go.RowKit
namespace Cal
/-- The seven pairs of a date's body. -/
def pairs (d : Date) : List Nat := [d.Y / 100, d.Y % 100, d.M, d.D, d.h, d.mi, d.s]
def twos : List Nat → List Nat
  | [] => []
  | p :: r => two p ++ twos r
theorem twos_snoc : ∀ (l : List Nat) (p : Nat), twos (l ++ [p]) = twos l ++ two p
  | [], p => by simp [twos]
  | q :: r, p => by rw [List.cons_append, twos, twos_snoc r p, twos, List.append_assoc]
theorem twos_len : ∀ l : List Nat, (twos l).length = 2 * l.length
  | [] => rfl
  | q :: r => by rw [twos, List.length_append, twos_len r, List.length_cons]; simp [two]; omega
theorem text_twos (d : Date) : text d = twos (pairs d) ++ [90] := rfl
theorem take_pairs (l : List Nat) (j : Nat) (h : j < l.length) : l.take (j + 1) = l.take j ++ [l.getD j 0] := by
  rw [List.take_add_one, List.getElem?_eq_getElem h, List.getD_eq_getElem?_getD, List.getElem?_eq_getElem h]; rfl
theorem pairs_lt {d : Date} (h : Right d) : ∀ j, (pairs d).getD j 0 < 100 := by
  obtain ⟨⟨y1, y2⟩, ⟨m1, m2⟩, ⟨d1, d2⟩, h1, mi1, s1⟩ := h
  have hd31 := (days_pos (y := d.Y) m1 m2).2
  intro j
  match j with
  | 0 => show d.Y / 100 < 100; omega
  | 1 => show d.Y % 100 < 100; omega
  | 2 => show d.M < 100; omega
  | 3 => show d.D < 100; omega
  | 4 => show d.h < 100; omega
  | 5 => show d.mi < 100; omega
  | 6 => show d.s < 100; omega
  | n + 7 => exact Nat.zero_lt_succ _
theorem twos_lt {l : List Nat} (h : ∀ x ∈ l, x < 100) : ∀ x ∈ twos l, x < 256 := by
  induction l with
  | nil => intro x hx; cases hx
  | cons p r ih =>
    intro x hx
    rw [twos, List.mem_append] at hx
    rcases hx with hx | hx
    · have := h p (List.mem_cons_self ..)
      simp only [two, List.mem_cons, List.not_mem_nil, or_false] at hx
      omega
    · exact ih (fun y hy => h y (List.mem_cons_of_mem _ hy)) x hx
end Cal
theorem two_bytes {p : Nat} (hp : p < 100) (w : World) (a b : Int) (ha : a = ((48 + p / 10 : Nat) : Int)) (hb : b = ((48 + p % 10 : Nat) : Int)) : Bytes (w.alloc (.cells #[.int .u8 a, .int .u8 b] 5)) (.slice (some ⟨w.heap.size, 0, none⟩) 2 2) (Cal.two p) := by
  subst ha hb
  exact Bytes.lit (l := Cal.two p) (alloc_at w _) (by intro x hx; simp only [Cal.two, List.mem_cons, List.not_mem_nil, or_false] at hx; omega)
end Go.Proofs.YtihioekepflpiaaGreatDoor
namespace Go.Proofs.YtihioekepflpiaaGreatDoor
namespace De
/-- A value: a call's kind, its number, its truth, its bytes, its text. -/
structure Val where
  kind : Int
  n : Int
  is : Bool
  b : List Nat
  t : List Nat
def none0 : Val := ⟨0, 0, false, [], []⟩
/-- A value's tag and body; the error's number. -/
def body (v : Val) : Except Nat (Nat × List Nat) :=
  if v.kind = 3 then .ok (2, Wh.body v.n) else if v.kind = 4 then .ok (10, Wh.body v.n) else
  if v.kind = 5 then .ok (1, [if v.is = true then 255 else 0]) else if v.kind = 6 then .ok (4, v.b) else
  if v.kind = 7 then (if Pt.asked v.t v.n = 0 then .ok (12, v.t) else .error (Pt.asked v.t v.n)) else
  if v.kind = 8 then (match Od.parse v.t with
    | .error e => .error e
    | .ok l => .ok (6, Od.put l)) else
  if v.kind = 9 then (if v.n < 0 ∨ 253402300799 < v.n then .error 1 else .ok (24, Cal.text (Cal.of v.n.toNat))) else
  if v.n < 0 ∨ 32767 < v.n then .error 1 else .ok (3, Pt.flags v.n.toNat)
def I64 (n : Int) : Prop := -9223372036854775808 ≤ n ∧ n ≤ 9223372036854775807
/-- A writer: the first error's number; what is open, innermost first, with what was written into it; what is done. -/
structure St where
  e : Nat
  op : List (Nat × List (List Nat))
  dn : List (List Nat)
def St.zero : St := ⟨0, [], []⟩
def add (s : St) (x : List Nat) : St :=
  match s.op with
  | [] => { s with dn := s.dn ++ [x] }
  | (t, l) :: r => { s with op := (t, l ++ [x]) :: r }
def put (s : St) (t : Nat) (b : List Nat) : St := if 65530 < b.length then { s with e := 3 } else add s (Tl.elem t b)
def opn (s : St) (t : Int) : St :=
  if Tl.made t = false then { s with e := 5 } else if 16 ≤ s.op.length then { s with e := 6 } else { s with op := (t.toNat, []) :: s.op }
def cls (s : St) : St :=
  match s.op with
  | [] => { s with e := 24 }
  | (t, l) :: r => put { s with op := r } t (if t = 49 then Pt.sort l else l).flatten
def raw (s : St) (b : List Nat) : St :=
  match Tl.levels b with
  | .error e => { s with e := e }
  | .ok _ => add s b
def plainV (s : St) (v : Val) : St :=
  match body v with
  | .error e => { s with e := e }
  | .ok (t, b) => put s t b
/-- A call of a writer. -/
def step (s : St) (v : Val) : St :=
  if s.e ≠ 0 then s else if v.kind = 1 then opn s v.n else if v.kind = 2 then cls s else if v.kind = 11 then raw s v.b else plainV s v
def done (s : St) : Except Nat (List Nat) :=
  if s.e ≠ 0 then .error s.e else if s.op ≠ [] then .error 24 else if 65536 < s.dn.flatten.length then .error 3 else .ok s.dn.flatten
def fail (s : St) (n : Nat) : St := if s.e = 0 then { s with e := n } else s
end De
end Go.Proofs.YtihioekepflpiaaGreatDoor
namespace Go.Proofs.YtihioekepflpiaaGreatDoor
namespace De
theorem strOf_at (l : List Nat) (i : Nat) (h : i < l.length) : (strOf l)[i]! = UInt8.ofNat (l.getD i 0) := by
  have hs : i < (strOf l).size := by rw [strOf_size]; exact h
  rw [getElem!_pos (strOf l) i hs, List.getD_eq_getElem?_getD, List.getElem?_eq_getElem h]
  show ((l.map UInt8.ofNat).toArray)[i]'(by simpa using h) = _
  rw [List.getElem_toArray, List.getElem_map]
  rfl
theorem ne_at {x y : Nat} (hx : x < 256) (hy : y < 256) : (UInt8.ofNat x != UInt8.ofNat y) = decide (x ≠ y) := by
  rw [Bool.eq_iff_iff]
  simp only [bne_iff_ne, ne_eq, decide_eq_true_eq]
  refine not_congr ⟨fun h => ?_, fun h => by rw [h]⟩
  have := congrArg UInt8.toNat h
  rw [UInt8.toNat_ofNat', UInt8.toNat_ofNat', Nat.mod_eq_of_lt hx, Nat.mod_eq_of_lt hy] at this
  exact this
theorem lt_at {x y : Nat} (hx : x < 256) (hy : y < 256) : (UInt8.ofNat x < UInt8.ofNat y) ↔ x < y := by
  rw [UInt8.lt_iff_toNat_lt, UInt8.toNat_ofNat', UInt8.toNat_ofNat', Nat.mod_eq_of_lt hx, Nat.mod_eq_of_lt hy]
/-- Where lists first differ tells their order. -/
theorem lex_at : ∀ (a b : List Nat) (i : Nat), (∀ j, j < i → a.getD j 0 = b.getD j 0) → i ≤ a.length → i ≤ b.length →
    (i < a.length → i < b.length → a.getD i 0 ≠ b.getD i 0 → Cal.lex a b = decide (a.getD i 0 < b.getD i 0)) ∧
    (i = a.length ∨ i = b.length → Cal.lex a b = decide (a.length < b.length))
  | [], [], i, _, ha, _ => ⟨fun h => absurd h (by simp), fun _ => by simp [Cal.lex]⟩
  | [], y :: s, i, _, ha, _ => ⟨fun h => absurd h (by simp), fun _ => by simp [Cal.lex]⟩
  | x :: r, [], i, _, _, hb => ⟨fun _ h => absurd h (by simp), fun _ => by simp [Cal.lex]⟩
  | x :: r, y :: s, 0, _, _, _ => ⟨fun _ _ h => by
      simp only [List.getD_cons_zero] at h ⊢
      rw [Cal.lex, if_neg h], fun h => by simp at h⟩
  | x :: r, y :: s, i + 1, hj, ha, hb => by
    have e : x = y := by simpa using hj 0 (by omega)
    subst e
    have ih := lex_at r s i (fun j h => by simpa using hj (j + 1) (by omega)) (by simpa using ha) (by simpa using hb)
    simp only [List.getD_cons_succ, List.length_cons] at ih ⊢
    rw [Cal.lex, if_pos rfl]
    refine ⟨fun h1 h2 h3 => ih.1 (by omega) (by omega) h3, fun h => ?_⟩
    rw [ih.2 (by omega)]
    simp
/-- The order of the model's bytes is that of lists. -/
theorem cmp_lex {a b : List Nat} (ha : ∀ x ∈ a, x < 256) (hb : ∀ x ∈ b, x < 256) : decide (Tl.cmpB a b < 0) = Cal.lex a b := by
  have ga : ∀ i, a.getD i 0 < 256 := fun i => by
    rw [List.getD_eq_getElem?_getD]
    cases h : a[i]? with
    | none => exact Nat.zero_lt_succ _
    | some x => exact ha x (List.mem_of_getElem? h)
  have gb : ∀ i, b.getD i 0 < 256 := fun i => by
    rw [List.getD_eq_getElem?_getD]
    cases h : b[i]? with
    | none => exact Nat.zero_lt_succ _
    | some x => exact hb x (List.mem_of_getElem? h)
  unfold Tl.cmpB Extern.BytealgCompare.cmp
  rw [strOf_size, strOf_size]
  have pe : ∀ i, i < min a.length b.length → ((strOf a)[i]! != (strOf b)[i]!) = decide (a.getD i 0 ≠ b.getD i 0) := fun i h => by
    rw [strOf_at a i (by omega), strOf_at b i (by omega), ne_at (ga i) (gb i)]
  cases hf : (List.range (min a.length b.length)).find? fun i => (strOf a)[i]! != (strOf b)[i]! with
  | none =>
    rw [List.find?_range_eq_none] at hf
    have hj : ∀ j, j < min a.length b.length → a.getD j 0 = b.getD j 0 := fun j h => by
      have := hf j h
      rw [pe j h] at this
      simpa using this
    have hl := (lex_at a b (min a.length b.length) hj (by omega) (by omega)).2 (by omega)
    rw [hl]
    show decide ((if a.length < b.length then (-1 : Int) else if a.length > b.length then 1 else 0) < 0) = _
    by_cases h1 : a.length < b.length
    · rw [if_pos h1]; simp [h1]
    · rw [if_neg h1]; split <;> simp [h1]
  | some i =>
    rw [List.find?_range_eq_some] at hf
    obtain ⟨h1, h2, h3⟩ := hf
    have hi : i < min a.length b.length := List.mem_range.1 h2
    rw [pe i hi] at h1
    have hj : ∀ j, j < i → a.getD j 0 = b.getD j 0 := fun j h => by
      have := h3 j h
      rw [pe j (by omega)] at this
      simpa using this
    have hl := (lex_at a b i hj (by omega) (by omega)).1 (by omega) (by omega) (by simpa using h1)
    rw [hl]
    show decide ((if (strOf a)[i]! < (strOf b)[i]! then (-1 : Int) else 1) < 0) = _
    rw [strOf_at a i (by omega), strOf_at b i (by omega)]
    by_cases h : a.getD i 0 < b.getD i 0
    · rw [if_pos ((lt_at (ga i) (gb i)).2 h)]; simp only [h]; decide
    · rw [if_neg (fun h2 => h ((lt_at (ga i) (gb i)).1 h2))]; simp only [h]; decide
/-- Fewer levels: the same, or too deep. -/
theorem loop_less {rec1 rec2 : Nat → List Nat → Except Nat Nat} (hr : ∀ t b, rec2 t b = .error 6 ∨ rec2 t b = rec1 t b) (one set : Bool) :
    ∀ f b ah d, Tl.loop rec2 one set f b ah d = .error 6 ∨ Tl.loop rec2 one set f b ah d = Tl.loop rec1 false set f b ah d
  | 0, _, _, _ => .inr rfl
  | f + 1, b, ah, d => by
    rw [Tl.loop, Tl.loop]
    by_cases hb : b = []
    · rw [if_pos hb, if_pos hb]; exact .inr rfl
    rw [if_neg hb, if_neg hb]
    cases hf : Tl.first b with
    | error e => exact .inr rfl
    | ok p =>
      obtain ⟨t, i, n⟩ := p
      show (if one = true then _ else _) = _ ∨ (if one = true then _ else _) = (if false = true then _ else _)
      cases one
      · rw [if_neg (by decide), if_neg (by decide)]
        rcases hr t ((b.drop i).take n) with h | h
        · rw [h]; exact .inl rfl
        · rw [h]
          cases hm : rec1 t ((b.drop i).take n) with
          | error e => exact .inr rfl
          | ok m =>
            show (if _ then _ else _) = _ ∨ (if _ then _ else _) = (if _ then _ else _)
            by_cases hs : (set && decide (Tl.cmpB (b.take (i + n)) ah < 0)) = true
            · rw [if_pos hs, if_pos hs]; exact .inr rfl
            · rw [if_neg hs, if_neg hs]; exact loop_less hr false set f _ _ _
      · rw [if_pos rfl]; exact .inl rfl
theorem within_less : ∀ k t b, Tl.within k t b = .error 6 ∨ Tl.within k t b = Tl.within (k + 1) t b
  | 0, _, _ => .inl rfl
  | k + 1, t, b => by
    rw [Tl.within, Tl.within]
    by_cases hm : Tl.made (t : Int) = true
    · rw [if_pos hm, if_pos hm]
      have h := loop_less (within_less k) (decide (k = 0)) (decide (t = 49)) b.length b [] 0
      rw [show decide (k + 1 = 0) = false from rfl]
      rcases h with h | h
      · rw [h]; exact .inl rfl
      · rw [h]; exact .inr rfl
    · rw [if_neg hm, if_neg hm]; exact .inr rfl
/-- No fault but that it may be too deep. -/
def Deep (r : Except Nat Nat) : Prop := (∃ m, r = .ok m) ∨ r = .error 6
theorem deep_less {k t : Nat} {b : List Nat} (h : Deep (Tl.within (k + 1) t b)) : Deep (Tl.within k t b) := by
  rcases within_less k t b with h2 | h2
  · exact .inr h2
  · rw [h2]; exact h
/-- An element that is whole, or too deep. -/
def Ok (x : List Nat) : Prop := ∃ t b, Tl.known (t : Nat) = true ∧ b.length ≤ 65530 ∧ x = Tl.elem t b ∧ (∀ z ∈ b, z < 256) ∧ Deep (Tl.within 16 t b)
theorem Ok.lt {x : List Nat} (h : Ok x) : ∀ z ∈ x, z < 256 := by
  obtain ⟨t, b, h1, _, rfl, h3, _⟩ := h
  have := Tl.known_nat _ h1
  exact Tl.elem_lt (by omega) h3
/-- Elements one behind the other, in order if they must be: no fault but that they may be too deep. -/
theorem loop_ok (k : Nat) (set : Bool) : ∀ (xs : List (List Nat)) (f : Nat) (ah : List Nat) (d : Nat), (∀ x ∈ xs, Ok x) → (set = true → (∀ z ∈ ah, z < 256) ∧ (ah :: xs).Pairwise Pt.le) → xs.flatten.length ≤ f → k ≤ 16 →
    Deep (Tl.loop (Tl.within k) false set f xs.flatten ah d)
  | [], f, ah, d, _, _, _, _ => .inl ⟨d, by cases f <;> simp [Tl.loop]⟩
  | x :: r, f, ah, d, hx, hs, hf, hk => by
    have hxl := (hx x (by simp)).lt
    obtain ⟨t, b, ht, hb, rfl, _, hw⟩ := hx x (by simp)
    have hl := Tl.elem_len t b
    rw [List.flatten_cons, List.length_append, hl] at hf
    obtain ⟨g, rfl⟩ : ∃ g, f = g + 1 := ⟨f - 1, by omega⟩
    have hne : Tl.elem t b ++ r.flatten ≠ [] := by simp [Tl.elem]
    have hd : Deep (Tl.within k t b) := by
      have : ∀ j, j ≤ 16 → Deep (Tl.within (16 - j) t b) := fun j => by
        induction j with
        | zero => intro _; exact hw
        | succ j ih =>
          intro hj
          have := ih (by omega)
          rw [show 16 - j = (16 - (j + 1)) + 1 by omega] at this
          exact deep_less this
      have := this (16 - k) (by omega)
      rwa [show 16 - (16 - k) = k by omega] at this
    have htk : (Tl.elem t b ++ r.flatten).take (2 + Tl.more b.length + b.length) = Tl.elem t b := by rw [← hl, List.take_left' rfl]
    rw [List.flatten_cons, Tl.loop, if_neg hne, Tl.first_ok t b _ ht hb]
    simp only [Bool.false_eq_true, if_false, Tl.elem_body]
    rw [Tl.elem_rest, htk]
    rcases hd with ⟨m, hm⟩ | hm
    · rw [hm]
      show Deep (if _ then _ else _)
      have hc : (set && decide (Tl.cmpB (Tl.elem t b) ah < 0)) = false := by
        cases set
        · rfl
        · obtain ⟨h1, h2⟩ := hs rfl
          rw [Bool.true_and, cmp_lex hxl h1]
          exact (List.pairwise_cons.1 h2).1 _ (by simp)
      rw [hc, if_neg (by decide)]
      exact loop_ok k set r g (Tl.elem t b) (max d m) (fun y hy => hx y (by simp [hy])) (fun h => ⟨hxl, (List.pairwise_cons.1 (hs h).2).2⟩) (by omega) hk
    · rw [hm]; exact .inr rfl
end De
end Go.Proofs.YtihioekepflpiaaGreatDoor
namespace Go.Proofs.YtihioekepflpiaaGreatDoor
namespace De
theorem foldl_num (l : List Nat) : ∀ a, l.foldl (fun a x => 256 * a + x) a = a * 256 ^ l.length + Tl.num l := by
  induction l with
  | nil => intro a; simp [Tl.num]
  | cons x r ih =>
    intro a
    have e : Tl.num (x :: r) = (256 * 0 + x) * 256 ^ r.length + Tl.num r := ih _
    rw [List.foldl_cons, ih, e, List.length_cons, Nat.pow_succ, Nat.add_mul, Nat.add_mul, Nat.mul_comm 256 a, Nat.mul_assoc a 256, Nat.mul_comm 256 (256 ^ r.length)]
    omega
theorem num_cons (x : Nat) (r : List Nat) : Tl.num (x :: r) = x * 256 ^ r.length + Tl.num r := by
  have e : Tl.num (x :: r) = (256 * 0 + x) * 256 ^ r.length + Tl.num r := foldl_num r _
  rw [e, Nat.mul_zero, Nat.zero_add]
theorem num_lt2 : ∀ {l : List Nat}, (∀ x ∈ l, x < 256) → Tl.num l < 256 ^ l.length
  | [], _ => by simp [Tl.num]
  | x :: r, h => by
    have ih := num_lt2 (l := r) (fun y hy => h y (by simp [hy]))
    have hx := h x (by simp)
    rw [num_cons, List.length_cons, Nat.pow_succ]
    have : x * 256 ^ r.length ≤ 255 * 256 ^ r.length := Nat.mul_le_mul_right _ (by omega)
    omega
theorem be_add (x : Nat) : ∀ (k j n : Nat), k ≤ j → Tl.be k (x * 256 ^ j + n) = Tl.be k n
  | 0, _, _, _ => rfl
  | k + 1, j, n, h => by
    rw [Tl.be, Tl.be, be_add x k j n (by omega)]
    have e : x * 256 ^ j = (x * 256 ^ (j - k - 1) * 256) * 256 ^ k := by
      rw [Nat.mul_assoc, Nat.mul_assoc, ← Nat.pow_succ', ← Nat.pow_add, show j - k - 1 + (k + 1) = j by omega]
    rw [e, Nat.mul_comm _ (256 ^ k), Nat.mul_add_div (Nat.pow_pos (by decide)), Nat.mul_comm _ 256, Nat.mul_add_mod]
theorem be_num : ∀ {l : List Nat}, (∀ x ∈ l, x < 256) → Tl.be l.length (Tl.num l) = l
  | [], _ => rfl
  | x :: r, h => by
    have ih := be_num (l := r) (fun y hy => h y (by simp [hy]))
    have hx := h x (by simp)
    have hr := num_lt2 (l := r) (fun y hy => h y (by simp [hy]))
    rw [num_cons, List.length_cons, Tl.be, be_add x _ _ _ (Nat.le_refl _), ih, Nat.mul_comm, Nat.mul_add_div (Nat.pow_pos (by decide)), Nat.div_eq_of_lt hr, Nat.add_zero, Nat.mod_eq_of_lt hx]
theorem rdLen_inv {r : List Nat} {n k : Nat} (h8 : ∀ x ∈ r, x < 256) (h : Tl.rdLen r = .ok (n, k)) : k = 1 + Tl.more n ∧ n ≤ 65530 ∧ k ≤ r.length ∧ r.take k = Tl.lenB n := by
  have pr : ∀ {a b c d : Nat}, (Except.ok (a, b) : Except Nat (Nat × Nat)) = .ok (c, d) → a = c ∧ b = d := fun e => Prod.mk.inj (Except.ok.inj e)
  match r, h8, h with
  | x :: s, h8, h =>
    rw [Tl.rdLen] at h
    by_cases h1 : x < 128
    · rw [if_pos h1] at h
      obtain ⟨rfl, rfl⟩ := pr h
      have hm : Tl.more x = 0 := by unfold Tl.more; rw [if_pos h1]
      refine ⟨by rw [hm], by omega, by simp, ?_⟩
      unfold Tl.lenB
      rw [if_pos h1]
      rfl
    rw [if_neg h1] at h
    by_cases h2 : x = 128 ∨ 132 < x
    · rw [if_pos h2] at h; exact absurd h (by simp)
    rw [if_neg h2] at h
    by_cases h3 : s.length < x - 128
    · rw [if_pos h3] at h; exact absurd h (by simp)
    rw [if_neg h3] at h
    obtain ⟨q, hq⟩ : ∃ q, x = 128 + q := ⟨x - 128, by omega⟩
    rw [show x - 128 = q by omega] at h h3
    by_cases h4 : Tl.more (Tl.num (s.take q)) ≠ q
    · rw [if_pos h4] at h; exact absurd h (by simp)
    rw [if_neg h4] at h
    have h4 : Tl.more (Tl.num (s.take q)) = q := Decidable.byContradiction h4
    by_cases h5 : 65530 < Tl.num (s.take q)
    · rw [if_pos h5] at h; exact absurd h (by simp)
    rw [if_neg h5] at h
    obtain ⟨hn, rfl⟩ := pr h
    have hl : (s.take q).length = q := by rw [List.length_take]; omega
    have hb := be_num (l := s.take q) (fun y hy => h8 y (by simp [List.mem_of_mem_take hy]))
    rw [hl, hn] at hb
    rw [hn] at h4 h5
    refine ⟨by omega, by omega, by simp only [List.length_cons]; omega, ?_⟩
    have h128 : ¬ n < 128 := by
      intro h6
      unfold Tl.more at h4
      rw [if_pos h6] at h4
      omega
    unfold Tl.lenB
    rw [if_neg h128, h4, hb, Nat.add_comm 1 q, List.take_succ_cons, hq]
/-- What is read as the first element is that element's bytes. -/
theorem first_inv {b : List Nat} {t i n : Nat} (h8 : ∀ x ∈ b, x < 256) (h : Tl.first b = .ok (t, i, n)) :
    Tl.known (t : Nat) = true ∧ n ≤ 65530 ∧ i + n ≤ b.length ∧ ((b.drop i).take n).length = n ∧ b.take (i + n) = Tl.elem t ((b.drop i).take n) := by
  match b, h8, h with
  | x :: r, h8, h =>
    rw [Tl.first] at h
    by_cases h1 : Tl.known (x : Nat) = false
    · rw [if_pos h1] at h; exact absurd h (by simp)
    rw [if_neg h1] at h
    cases hr : Tl.rdLen r with
    | error e => rw [hr] at h; exact absurd h (by simp)
    | ok p =>
      obtain ⟨m, k⟩ := p
      rw [hr] at h
      have h : (if r.length - k < m then (Except.error 2 : Except Nat (Nat × Nat × Nat)) else .ok (x, 1 + k, m)) = .ok (t, i, n) := h
      by_cases h2 : r.length - k < m
      · rw [if_pos h2] at h; exact absurd h (by simp)
      rw [if_neg h2] at h
      obtain ⟨rfl, h3⟩ := Prod.mk.inj (Except.ok.inj h)
      obtain ⟨rfl, rfl⟩ := Prod.mk.inj h3
      obtain ⟨hk, hm, hkl, hlen⟩ := rdLen_inv (fun y hy => h8 y (by simp [hy])) hr
      have hl : (((x :: r).drop (1 + k)).take m).length = m := by
        rw [List.length_take, List.length_drop, List.length_cons]; omega
      refine ⟨by simpa using h1, hm, by simp only [List.length_cons]; omega, hl, ?_⟩
      rw [Tl.elem, hl, ← hlen, Nat.add_comm 1 k, show k + 1 + m = (k + m) + 1 by omega, List.take_succ_cons, List.drop_succ_cons, ← List.take_add]
theorem levels_inv {b : List Nat} {m : Nat} (h8 : ∀ x ∈ b, x < 256) (h : Tl.levels b = .ok m) : Ok b := by
  unfold Tl.levels at h
  by_cases h1 : 65536 < b.length
  · rw [if_pos h1] at h; exact absurd h (by simp)
  rw [if_neg h1] at h
  cases hf : Tl.first b with
  | error e => rw [hf] at h; exact absurd h (by simp)
  | ok p =>
    obtain ⟨t, i, n⟩ := p
    rw [hf] at h
    have h : (if i + n < b.length then (Except.error 4 : Except Nat Nat) else Tl.within 16 t ((b.drop i).take n)) = .ok m := h
    by_cases h2 : i + n < b.length
    · rw [if_pos h2] at h; exact absurd h (by simp)
    rw [if_neg h2] at h
    obtain ⟨hk, hn, hl, hlen, he⟩ := first_inv h8 hf
    refine ⟨t, (b.drop i).take n, hk, by omega, ?_, fun z hz => h8 z (List.mem_of_mem_drop (List.mem_of_mem_take hz)), .inl ⟨m, h⟩⟩
    rw [← he, List.take_of_length_le (by omega)]
/-- What a writer holds. -/
structure Good (s : St) : Prop where
  dn : ∀ x ∈ s.dn, Ok x
  op : ∀ p ∈ s.op, Tl.made (p.1 : Nat) = true ∧ ∀ x ∈ p.2, Ok x
theorem good_zero : Good St.zero := ⟨by simp [St.zero], by simp [St.zero]⟩
theorem good_err {s : St} (h : Good s) (e : Nat) : Good { s with e := e } := ⟨h.dn, h.op⟩
theorem good_add {s : St} {x : List Nat} (h : Good s) (hx : Ok x) : Good (add s x) := by
  obtain ⟨e, op, dn⟩ := s
  match op, h with
  | [], h =>
    refine ⟨fun y hy => ?_, h.op⟩
    rcases List.mem_append.1 hy with h1 | h1
    · exact h.dn y h1
    · rw [List.mem_singleton] at h1; rw [h1]; exact hx
  | (t, l) :: r, h =>
    refine ⟨h.dn, fun p hp => ?_⟩
    rcases List.mem_cons.1 hp with rfl | hp
    · have := h.op (t, l) (by simp)
      refine ⟨this.1, fun y hy => ?_⟩
      rcases List.mem_append.1 hy with h1 | h1
      · exact this.2 y h1
      · rw [List.mem_singleton] at h1; rw [h1]; exact hx
    · exact h.op p (by simp [hp])
theorem good_put {s : St} {t : Nat} {b : List Nat} (h : Good s) (hk : Tl.known (t : Nat) = true) (h8 : ∀ z ∈ b, z < 256) (hw : b.length ≤ 65530 → Deep (Tl.within 16 t b)) : Good (put s t b) := by
  unfold put
  by_cases hl : 65530 < b.length
  · rw [if_pos hl]; exact good_err h 3
  · rw [if_neg hl]; exact good_add h ⟨t, b, hk, by omega, rfl, h8, hw (by omega)⟩
theorem within_flat {t : Nat} (b : List Nat) (h : Tl.made (t : Nat) = false) : Deep (Tl.within 16 t b) := .inl ⟨1, by rw [Tl.within, h]; rfl⟩
theorem known_made {t : Nat} (h : Tl.made (t : Nat) = true) : Tl.known (t : Nat) = true := by unfold Tl.known; rw [h]; rfl
theorem good_cls {s : St} (h : Good s) : Good (cls s) := by
  obtain ⟨e, op, dn⟩ := s
  match op, h with
  | [], h => exact good_err h 24
  | (t, l) :: r, h =>
    obtain ⟨hm, hl⟩ := h.op (t, l) (by simp)
    have h2 : Good ⟨e, r, dn⟩ := ⟨h.dn, fun p hp => h.op p (by simp [hp])⟩
    obtain ⟨xs, hxs⟩ : ∃ xs, xs = (if t = 49 then Pt.sort l else l) := ⟨_, rfl⟩
    have hx : ∀ x ∈ xs, Ok x := fun x hx => by
      rw [hxs] at hx
      split at hx
      · exact hl x (Pt.sort_mem.1 hx)
      · exact hl x hx
    have hs : t = 49 → ([] :: xs).Pairwise Pt.le := fun h49 => by
      rw [hxs, if_pos h49]
      refine List.pairwise_cons.2 ⟨fun y _ => ?_, Pt.sort_sorted l⟩
      show Cal.lex y [] = false
      cases y <;> rfl
    show Good (put ⟨e, r, dn⟩ t (if t = 49 then Pt.sort l else l).flatten)
    rw [← hxs]
    refine good_put h2 (known_made hm) ?_ (fun hlen => ?_)
    · intro z hz
      obtain ⟨x, hx1, hx2⟩ := List.mem_flatten.1 hz
      exact (hx x hx1).lt z hx2
    · rw [Tl.within, if_pos hm]
      have := loop_ok 15 (decide (t = 49)) xs xs.flatten.length [] 0 hx (fun h => ⟨by simp, hs (by simpa using h)⟩) (Nat.le_refl _) (by omega)
      show Deep (match Tl.loop (Tl.within 15) (decide (15 = 0)) (decide (t = 49)) xs.flatten.length xs.flatten [] 0 with | .error e => _ | .ok d => _)
      rw [show decide (15 = 0) = false from rfl]
      rcases this with ⟨m, hm⟩ | hm
      · rw [hm]; exact .inl ⟨1 + m, rfl⟩
      · rw [hm]; exact .inr rfl
end De
end Go.Proofs.YtihioekepflpiaaGreatDoor
namespace Go.Proofs.YtihioekepflpiaaGreatDoor
namespace De
theorem rest_lt : ∀ (l : List Int), ∀ x ∈ Od.rest l, x < 256
  | [] => by simp [Od.rest]
  | n :: r => by
    intro x hx
    rw [Od.rest, List.mem_append] at hx
    rcases hx with h | h
    · exact Od.septUpto_lt n.toNat 6 x h
    · exact rest_lt r x h
theorem oput_lt (l : List Int) : ∀ x ∈ Od.put l, x < 256 := by
  intro x hx
  rcases List.mem_append.1 hx with h | h
  · exact Od.septUpto_lt _ 6 x h
  · exact rest_lt _ x h
theorem two_lt (n : Nat) (h : n < 100) : ∀ x ∈ Cal.two n, x < 256 := by
  intro x hx
  simp only [Cal.two, List.mem_cons, List.not_mem_nil, or_false] at hx
  omega
theorem ctext_lt {d : Cal.Date} (h : Cal.Right d) : ∀ x ∈ Cal.text d, x < 256 := by
  obtain ⟨⟨y1, y2⟩, ⟨m1, m2⟩, ⟨d1, d2⟩, h1, h2, h3⟩ := h
  have hd := (Cal.days_pos (y := d.Y) m1 m2).2
  intro x hx
  simp only [Cal.text, List.mem_append] at hx
  rcases hx with h | h | h | h | h | h | h | h
  · exact two_lt _ (by omega) x h
  · exact two_lt _ (by omega) x h
  · exact two_lt _ (by omega) x h
  · exact two_lt _ (by omega) x h
  · exact two_lt _ (by omega) x h
  · exact two_lt _ (by omega) x h
  · exact two_lt _ (by omega) x h
  · rw [List.mem_singleton] at h; omega
/-- A value whose bytes are bytes. -/
def Byt (v : Val) : Prop := (∀ z ∈ v.b, z < 256) ∧ (∀ z ∈ v.t, z < 256)
theorem body_lt {v : Val} {t : Nat} {b : List Nat} (hv : Byt v) (h : body v = .ok (t, b)) : (∀ z ∈ b, z < 256) ∧ Tl.made (t : Nat) = false ∧ Tl.known (t : Nat) = true := by
  have pr : ∀ {a c : Nat} {x y : List Nat}, (Except.ok (a, x) : Except Nat (Nat × List Nat)) = .ok (c, y) → a = c ∧ x = y := fun e => Prod.mk.inj (Except.ok.inj e)
  obtain ⟨hb, ht⟩ := hv
  obtain ⟨k, n, is, vb, vt⟩ := v
  unfold body at h
  simp only at *
  by_cases e3 : k = 3
  · rw [if_pos e3] at h; obtain ⟨rfl, rfl⟩ := pr h; exact ⟨Wh.body_lt n, by decide, by decide⟩
  rw [if_neg e3] at h
  by_cases e4 : k = 4
  · rw [if_pos e4] at h; obtain ⟨rfl, rfl⟩ := pr h; exact ⟨Wh.body_lt n, by decide, by decide⟩
  rw [if_neg e4] at h
  by_cases e5 : k = 5
  · rw [if_pos e5] at h; obtain ⟨rfl, rfl⟩ := pr h; exact ⟨by cases is <;> simp, by decide, by decide⟩
  rw [if_neg e5] at h
  by_cases e6 : k = 6
  · rw [if_pos e6] at h; obtain ⟨rfl, rfl⟩ := pr h; exact ⟨hb, by decide, by decide⟩
  rw [if_neg e6] at h
  by_cases e7 : k = 7
  · rw [if_pos e7] at h
    by_cases ha : Pt.asked vt n = 0
    · rw [if_pos ha] at h; obtain ⟨rfl, rfl⟩ := pr h; exact ⟨ht, by decide, by decide⟩
    · rw [if_neg ha] at h; exact absurd h (by simp)
  rw [if_neg e7] at h
  by_cases e8 : k = 8
  · rw [if_pos e8] at h
    cases hp : Od.parse vt with
    | error e => rw [hp] at h; exact absurd h (by simp)
    | ok l => rw [hp] at h; obtain ⟨rfl, rfl⟩ := pr h; exact ⟨oput_lt l, by decide, by decide⟩
  rw [if_neg e8] at h
  by_cases e9 : k = 9
  · rw [if_pos e9] at h
    by_cases ha : n < 0 ∨ 253402300799 < n
    · rw [if_pos ha] at h; exact absurd h (by simp)
    · rw [if_neg ha] at h; obtain ⟨rfl, rfl⟩ := pr h; exact ⟨ctext_lt (Cal.of_right (by omega)).1, by decide, by decide⟩
  rw [if_neg e9] at h
  by_cases ha : n < 0 ∨ 32767 < n
  · rw [if_pos ha] at h; exact absurd h (by simp)
  · rw [if_neg ha] at h; obtain ⟨rfl, rfl⟩ := pr h; exact ⟨Pt.flags_lt _ (by omega), by decide, by decide⟩
/-- Every call keeps it. -/
theorem good_step {s : St} {v : Val} (h : Good s) (hv : Byt v) : Good (step s v) := by
  unfold step
  by_cases he : s.e ≠ 0
  · rw [if_pos he]; exact h
  rw [if_neg he]
  by_cases h1 : v.kind = 1
  · rw [if_pos h1]
    unfold opn
    by_cases hm : Tl.made v.n = false
    · rw [if_pos hm]; exact good_err h 5
    rw [if_neg hm]
    by_cases hd : 16 ≤ s.op.length
    · rw [if_pos hd]; exact good_err h 6
    rw [if_neg hd]
    have hm2 : Tl.made v.n = true := by simpa using hm
    have := Tl.made_nat _ hm2
    refine ⟨h.dn, fun p hp => ?_⟩
    rcases List.mem_cons.1 hp with rfl | hp
    · exact ⟨by show Tl.made ((v.n.toNat : Nat) : Int) = true; rw [Int.toNat_of_nonneg (by omega)]; exact hm2, by simp⟩
    · exact h.op p hp
  rw [if_neg h1]
  by_cases h2 : v.kind = 2
  · rw [if_pos h2]; exact good_cls h
  rw [if_neg h2]
  by_cases h3 : v.kind = 11
  · rw [if_pos h3]
    unfold raw
    cases hl : Tl.levels v.b with
    | error e => exact good_err h e
    | ok m => exact good_add h (levels_inv hv.1 hl)
  rw [if_neg h3]
  unfold plainV
  cases hb : body v with
  | error e => exact good_err h e
  | ok p =>
    obtain ⟨t, b⟩ := p
    obtain ⟨h8, hm, hk⟩ := body_lt hv hb
    exact good_put h hk h8 (fun _ => within_flat b hm)
end De
end Go.Proofs.YtihioekepflpiaaGreatDoor
namespace Go.Proofs.YtihioekepflpiaaGreatDoor
open Go.RowKit
/-- A row of elements: slices with these bytes; it is said of F's blocks. -/
def Lev (x : Value) (ys : List Value) (L : List (List Nat)) (w : World) : Prop := Vals w x ys ∧ Each w ys L ∧ Whole0 x
def LevS (F : Nat → Prop) (w : World) (x : Value) (L : List (List Nat)) : Prop := ∃ ys, Sup F w (Lev x ys L)
theorem LevS.upto {F O : Nat → Prop} {w w' : World} {x : Value} {L : List (List Nat)} (h : LevS F w x L) (hu : Upto O w w') (hd : ∀ k, F k → ¬ O k) : LevS F w' x L := by
  obtain ⟨ys, h⟩ := h
  exact ⟨ys, h.upto hu hd⟩
def tagsOf (s : De.St) : List Int := (s.op.map fun p => (p.1 : Int)).reverse
def levOf (s : De.St) (k : Nat) : List (List Nat) := if k = 0 then s.dn else (s.op.reverse.getD (k - 1) (0, [])).2
theorem tagsOf_len (s : De.St) : (tagsOf s).length = s.op.length := by simp [tagsOf]
/-- F, and what has come since. -/
def Ext (F : Nat → Prop) (w w' : World) (k : Nat) : Prop := F k ∨ (w.heap.size ≤ k ∧ k < w'.heap.size)
section
variable {W0 w w' : World} {F : Nat → Prop} {b : Nat} {tv rv rv' : Value} {s s' : De.St}
theorem ext_own (hb : W0.grownBy w none) (hF : ∀ k, F k → W0.heap.size ≤ k ∧ k < w.heap.size) (hs : w.heap.size ≤ w'.heap.size) : ∀ k, Ext F w w' k → W0.heap.size ≤ k ∧ k < w'.heap.size := fun k hk => by
  have := hb.size
  rcases hk with hk | hk
  · have := hF k hk; omega
  · omega
theorem Ext.refl_iff (F : Nat → Prop) (w : World) (k : Nat) : Ext F w w k ↔ F k := ⟨fun h => by
  rcases h with h | h
  · exact h
  · omega, fun h => .inl h⟩
theorem Ext.trans {a b c : World} (h1 : a.heap.size ≤ b.heap.size) (h2 : b.heap.size ≤ c.heap.size) (k : Nat) : Ext (Ext F a b) b c k ↔ Ext F a c k := by
  unfold Ext
  constructor
  · rintro ((h | h) | h)
    · exact .inl h
    · exact .inr (by omega)
    · exact .inr (by omega)
  · rintro (h | h)
    · exact .inl (.inl h)
    · by_cases hk : k < b.heap.size
      · exact .inl (.inr (by omega))
      · exact .inr (by omega)
end
end Go.Proofs.YtihioekepflpiaaGreatDoor
namespace Go.Proofs.YtihioekepflpiaaGreatDoor
open Go.RowKit
theorem own_setCell {w : World} {base : Nat} {e : TypeId} {sz : Nat} {v : Value} {n : Nat} {xs : List Value} (h : w.ownsRow base e sz v n xs) {b i : Nat} {u : Value} (hb : v.ownBlock ≠ some b) : (w.setCell ⟨b, i, none⟩ u).ownsRow base e sz v n xs := by
  refine ⟨h.1, ?_⟩
  rcases h.2 with h1 | ⟨g, cap, cur, rfl, h2, h3, h4⟩
  · exact .inl h1
  · refine .inr ⟨g, cap, cur, rfl, h2, ?_, h4⟩
    rw [Below.heap_setCell _ _ _ _ (fun e => hb (by show some g = some b; rw [e]))]
    exact h3
section
variable {W0 w w' : World} {F : Nat → Prop} {b : Nat} {tv rv rv' : Value} {s : De.St}
theorem tagsOf_add (s : De.St) (l : List Nat) : tagsOf (De.add s l) = tagsOf s := by
  obtain ⟨e, op, dn⟩ := s
  match op with
  | [] => rfl
  | (t, r) :: q => rfl
theorem opLen_add (s : De.St) (l : List Nat) : (De.add s l).op.length = s.op.length := by
  obtain ⟨e, op, dn⟩ := s
  match op with
  | [] => rfl
  | (t, r) :: q => rfl
theorem e_add (s : De.St) (l : List Nat) : (De.add s l).e = s.e := by
  obtain ⟨e, op, dn⟩ := s
  match op with
  | [] => rfl
  | (t, r) :: q => rfl
theorem levOf_add (s : De.St) (l : List Nat) (k : Nat) (hk : k ≤ s.op.length) : levOf (De.add s l) k = if k = s.op.length then levOf s k ++ [l] else levOf s k := by
  obtain ⟨e, op, dn⟩ := s
  match op with
  | [] =>
    obtain rfl : k = 0 := by simpa using hk
    rfl
  | (t, r) :: q =>
    simp only [List.length_cons] at hk
    show levOf ⟨e, (t, r ++ [l]) :: q, dn⟩ k = _
    unfold levOf
    simp only [List.reverse_cons, List.length_cons]
    by_cases h0 : k = 0
    · subst h0; simp
    · rw [if_neg h0, if_neg h0]
      by_cases hq : k = q.length + 1
      · subst hq
        simp [List.getD_eq_getElem?_getD]
      · rw [if_neg hq]
        have : k - 1 < q.reverse.length := by simp; omega
        simp only [List.getD_eq_getElem?_getD]
        rw [List.getElem?_append_left this, List.getElem?_append_left this]
end
end Go.Proofs.YtihioekepflpiaaGreatDoor
