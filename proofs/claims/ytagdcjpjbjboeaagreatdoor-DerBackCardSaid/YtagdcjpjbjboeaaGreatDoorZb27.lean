import Derived.Test.YtagdcjpjbjboeaaGreatDoorZb00
import Derived.Test.YtagdcjpjbjboeaaGreatDoorZb01
import Derived.Test.YtagdcjpjbjboeaaGreatDoorZb17
import Derived.Test.YtagdcjpjbjboeaaGreatDoorZb19
import Derived.Test.YtagdcjpjbjboeaaGreatDoorZb20
import Derived.Test.YtagdcjpjbjboeaaGreatDoorZb22
import Derived.Deep.RegionHeld3
import Derived.BigQuiet
namespace Go.Proofs.YtagdcjpjbjboeaaGreatDoor
namespace De
/-- A value: a call's kind, its number, its truth, its bytes, its text. -/
structure Val where
  kind : Int
  n : Int
  is : Bool
  b : List Nat
  t : List Nat
def none0 : Val := ⟨0, 0, false, [], []⟩
/-- A value's tag and body; the error's number. -/
def body (v : Val) : Except Nat (Nat × List Nat) :=
  if v.kind = 3 then .ok (2, Wh.body v.n) else if v.kind = 4 then .ok (10, Wh.body v.n) else
  if v.kind = 5 then .ok (1, [if v.is = true then 255 else 0]) else if v.kind = 6 then .ok (4, v.b) else
  if v.kind = 7 then (if Pt.asked v.t v.n = 0 then .ok (12, v.t) else .error (Pt.asked v.t v.n)) else
  if v.kind = 8 then (match Od.parse v.t with
    | .error e => .error e
    | .ok l => .ok (6, Od.put l)) else
  if v.kind = 9 then (if v.n < 0 ∨ 253402300799 < v.n then .error 1 else .ok (24, Cal.text (Cal.of v.n.toNat))) else
  if v.n < 0 ∨ 32767 < v.n then .error 1 else .ok (3, Pt.flags v.n.toNat)
/-- What a body says, to a call of a kind and bounds. -/
def said (k least most : Int) (b : List Nat) : Except Nat Val :=
  if k = 3 ∨ k = 4 then (match Wh.get b with
    | .error e => .error e
    | .ok n => if n < least ∨ most < n then .error 1 else .ok { none0 with n := n }) else
  if k = 5 then (if b.length = 0 then .error 2 else if 1 < b.length ∨ (b.getD 0 0 ≠ 0 ∧ b.getD 0 0 ≠ 255) then .error 4 else .ok { none0 with is := decide (b.getD 0 0 = 255) }) else
  if k = 6 then (if (b.length : Int) < least then .error 2 else if most < (b.length : Int) then .error 3 else .ok { none0 with b := b }) else
  if k = 7 then (if Pt.asked b most = 0 then .ok { none0 with t := b } else .error (Pt.asked b most)) else
  if k = 8 then (match Od.get b with
    | .error e => .error e
    | .ok l => .ok { none0 with t := Od.text l }) else
  if k = 9 then (match Cal.get b with
    | .error e => .error e
    | .ok n => .ok { none0 with n := (n : Int) }) else
  match Pt.mask b with
    | .error e => .error e
    | .ok n => .ok { none0 with n := (n : Int) }
/-- What a value comes back as: the one thing that its kind has. -/
def back (v : Val) : Val :=
  if v.kind = 5 then { none0 with is := v.is } else if v.kind = 6 then { none0 with b := v.b } else
  if v.kind = 7 ∨ v.kind = 8 then { none0 with t := v.t } else { none0 with n := v.n }
def I64 (n : Int) : Prop := -9223372036854775808 ≤ n ∧ n ≤ 9223372036854775807
theorem asked_zero {l : List Nat} {m m2 : Int} (h : Pt.asked l m = 0) (h2 : (l.length : Int) ≤ m2) : Pt.asked l m2 = 0 := by
  unfold Pt.asked at *
  by_cases h0 : l.length = 0
  · rw [if_pos h0] at h; exact absurd h (by decide)
  · rw [if_neg h0] at h
    rw [if_neg h0, if_neg (by omega)]
    by_cases h3 : m < (l.length : Int)
    · rw [if_pos h3] at h; exact absurd h (by decide)
    · rwa [if_neg h3] at h
/-- What is said of a value's body is the value. -/
theorem said_body {v : Val} {t : Nat} {b : List Nat} (hk : 3 ≤ v.kind ∧ v.kind ≤ 10) (hn : I64 v.n) (hb : v.b.length ≤ 300) (ht : v.t.length ≤ 300) (h : body v = .ok (t, b)) :
    said v.kind (-9223372036854775808) 9223372036854775807 b = .ok (back v) := by
  obtain ⟨k, n, is, vb, vt⟩ := v
  obtain ⟨h1, h2⟩ := hn
  simp only at *
  have pr : ∀ {a c : Nat} {x y : List Nat}, (Except.ok (a, x) : Except Nat (Nat × List Nat)) = .ok (c, y) → a = c ∧ x = y := fun e => Prod.mk.inj (Except.ok.inj e)
  unfold body at h
  unfold said back
  simp only at *
  by_cases e3 : k = 3
  · subst e3
    rw [if_pos rfl] at h
    obtain ⟨_, rfl⟩ := pr h
    rw [if_pos (by decide), Wh.get_body n h1 h2]
    show (if _ then _ else _) = _
    rw [if_neg (by omega), if_neg (by decide), if_neg (by decide), if_neg (by decide)]
  rw [if_neg e3] at h
  by_cases e4 : k = 4
  · subst e4
    rw [if_pos rfl] at h
    obtain ⟨_, rfl⟩ := pr h
    rw [if_pos (by decide), Wh.get_body n h1 h2]
    show (if _ then _ else _) = _
    rw [if_neg (by omega), if_neg (by decide), if_neg (by decide), if_neg (by decide)]
  rw [if_neg e4] at h
  rw [if_neg (show ¬ (k = 3 ∨ k = 4) from by omega)]
  by_cases e5 : k = 5
  · subst e5
    rw [if_pos rfl] at h
    obtain ⟨_, rfl⟩ := pr h
    rw [if_pos rfl, if_pos rfl]
    cases is <;> rfl
  rw [if_neg e5] at h
  rw [if_neg e5, if_neg e5]
  by_cases e6 : k = 6
  · subst e6
    rw [if_pos rfl] at h
    obtain ⟨_, rfl⟩ := pr h
    rw [if_pos rfl, if_pos rfl, if_neg (by omega), if_neg (by omega)]
  rw [if_neg e6] at h
  rw [if_neg e6, if_neg e6]
  by_cases e7 : k = 7
  · subst e7
    rw [if_pos rfl] at h
    by_cases ha : Pt.asked vt n = 0
    · rw [if_pos ha] at h
      obtain ⟨_, rfl⟩ := pr h
      rw [if_pos rfl, if_pos (asked_zero (m2 := 9223372036854775807) ha (by omega)), if_pos (.inl rfl)]
    · rw [if_neg ha] at h; exact absurd h (by simp)
  rw [if_neg e7] at h
  rw [if_neg e7]
  by_cases e8 : k = 8
  · subst e8
    rw [if_pos rfl] at h
    rw [if_pos rfl, if_pos (by decide)]
    cases hp : Od.parse vt with
    | error e => rw [hp] at h; exact absurd h (by simp)
    | ok l =>
      rw [hp] at h
      obtain ⟨_, rfl⟩ := pr h
      have hr := (Od.parse_ok hp).2
      rw [Od.get_put hr]
      show Except.ok _ = _
      rw [Od.text_parse hp]
  rw [if_neg e8] at h
  rw [if_neg e8, if_neg (show ¬ (k = 7 ∨ k = 8) from by omega)]
  by_cases e9 : k = 9
  · subst e9
    rw [if_pos rfl] at h
    by_cases ha : n < 0 ∨ 253402300799 < n
    · rw [if_pos ha] at h; exact absurd h (by simp)
    · rw [if_neg ha] at h
      obtain ⟨_, rfl⟩ := pr h
      have hc := Cal.of_right (t := n.toNat) (by omega)
      rw [if_pos rfl, Cal.get_text hc.1, hc.2]
      show Except.ok _ = _
      rw [Int.toNat_of_nonneg (by omega)]
  rw [if_neg e9] at h
  rw [if_neg e9]
  by_cases ha : n < 0 ∨ 32767 < n
  · rw [if_pos ha] at h; exact absurd h (by simp)
  · rw [if_neg ha] at h
    obtain ⟨_, rfl⟩ := pr h
    rw [Pt.mask_flags (by omega)]
    show Except.ok _ = _
    rw [Int.toNat_of_nonneg (by omega)]
/-- A writer: the first error's number; what is open, innermost first, with what was written into it; what is done. -/
structure St where
  e : Nat
  op : List (Nat × List (List Nat))
  dn : List (List Nat)
def St.zero : St := ⟨0, [], []⟩
def add (s : St) (x : List Nat) : St :=
  match s.op with
  | [] => { s with dn := s.dn ++ [x] }
  | (t, l) :: r => { s with op := (t, l ++ [x]) :: r }
def put (s : St) (t : Nat) (b : List Nat) : St := if 65530 < b.length then { s with e := 3 } else add s (Tl.elem t b)
def opn (s : St) (t : Int) : St :=
  if Tl.made t = false then { s with e := 5 } else if 16 ≤ s.op.length then { s with e := 6 } else { s with op := (t.toNat, []) :: s.op }
def cls (s : St) : St :=
  match s.op with
  | [] => { s with e := 24 }
  | (t, l) :: r => put { s with op := r } t (if t = 49 then Pt.sort l else l).flatten
def raw (s : St) (b : List Nat) : St :=
  match Tl.levels b with
  | .error e => { s with e := e }
  | .ok _ => add s b
def plainV (s : St) (v : Val) : St :=
  match body v with
  | .error e => { s with e := e }
  | .ok (t, b) => put s t b
/-- A call of a writer. -/
def step (s : St) (v : Val) : St :=
  if s.e ≠ 0 then s else if v.kind = 1 then opn s v.n else if v.kind = 2 then cls s else if v.kind = 11 then raw s v.b else plainV s v
def done (s : St) : Except Nat (List Nat) :=
  if s.e ≠ 0 then .error s.e else if s.op ≠ [] then .error 24 else if 65536 < s.dn.flatten.length then .error 3 else .ok s.dn.flatten
def fail (s : St) (n : Nat) : St := if s.e = 0 then { s with e := n } else s
/-- A reader: the first error's number; what is left of what was entered, innermost first, and outermost the bytes. -/
structure Rd where
  e : Nat
  top : List Nat
  left : List (List Nat)
def start (b : List Nat) : Rd := ⟨match Tl.levels b with
  | .error e => e
  | .ok _ => 0, b, []⟩
/-- The next element's body and bytes, of a tag (0: any). -/
def next (s : Rd) (tag : Int) : Rd × Option (List Nat × List Nat) :=
  if s.e ≠ 0 then (s, none) else match Tl.first s.top with
    | .error e => ({ s with e := e }, none)
    | .ok (t, i, n) => if tag ≠ 0 ∧ (t : Int) ≠ tag then ({ s with e := 5 }, none) else ({ s with top := s.top.drop (i + n) }, some ((s.top.drop i).take n, s.top.take (i + n)))
def more (s : Rd) : Bool := decide (s.e = 0) && decide (s.top ≠ [])
def enter (s : Rd) (tag : Int) : Rd × Bool :=
  if s.e ≠ 0 then (s, false) else if s.top ≠ [] ∧ Tl.made tag = false then ({ s with e := 5 }, false) else match next s tag with
    | (s2, none) => (s2, false)
    | (s2, some (b, _)) => ({ s2 with top := b, left := s2.top :: s2.left }, true)
def leave (s : Rd) : Rd :=
  if s.e ≠ 0 then s else match s.left with
    | [] => { s with e := 24 }
    | b :: r => if s.top ≠ [] then { s with e := 4 } else { s with top := b, left := r }
def tagOf (k : Int) : Int := if k = 3 then 2 else if k = 4 then 10 else if k = 5 then 1 else if k = 6 then 4 else if k = 7 then 12 else if k = 8 then 6 else if k = 9 then 24 else 3
/-- A call of a reader, and its answer. -/
def ask (s : Rd) (k tag least most : Int) : Rd × Val :=
  if s.e ≠ 0 then (s, none0) else if k = 1 then ((enter s tag).1, { none0 with is := (enter s tag).2 }) else if k = 2 then (leave s, none0) else
  if k = 11 then (match next s 0 with
    | (s2, none) => (s2, none0)
    | (s2, some (_, b)) => (s2, { none0 with b := b })) else
  match next s (tagOf k) with
    | (s2, none) => (s2, none0)
    | (s2, some (b, _)) => match said k least most b with
      | .error e => ({ s2 with e := e }, none0)
      | .ok v => (s2, v)
def fin (s : Rd) : Nat := if s.e ≠ 0 then s.e else if s.left ≠ [] then 24 else if s.top ≠ [] then 4 else 0
theorem body_tag {v : Val} {t : Nat} {b : List Nat} (hk : 3 ≤ v.kind ∧ v.kind ≤ 10) (h : body v = .ok (t, b)) : (t : Int) = tagOf v.kind ∧ Tl.made t = false ∧ Tl.known t = true := by
  have pr : ∀ {a c : Nat} {x y : List Nat}, (Except.ok (a, x) : Except Nat (Nat × List Nat)) = .ok (c, y) → a = c ∧ x = y := fun e => Prod.mk.inj (Except.ok.inj e)
  obtain ⟨k, n, is, vb, vt⟩ := v
  unfold body at h
  simp only at *
  unfold tagOf
  by_cases e3 : k = 3
  · subst e3; rw [if_pos rfl] at h; obtain ⟨rfl, _⟩ := pr h; exact ⟨rfl, by decide, by decide⟩
  rw [if_neg e3] at h ⊢
  by_cases e4 : k = 4
  · subst e4; rw [if_pos rfl] at h; obtain ⟨rfl, _⟩ := pr h; exact ⟨rfl, by decide, by decide⟩
  rw [if_neg e4] at h ⊢
  by_cases e5 : k = 5
  · subst e5; rw [if_pos rfl] at h; obtain ⟨rfl, _⟩ := pr h; exact ⟨rfl, by decide, by decide⟩
  rw [if_neg e5] at h ⊢
  by_cases e6 : k = 6
  · subst e6; rw [if_pos rfl] at h; obtain ⟨rfl, _⟩ := pr h; exact ⟨rfl, by decide, by decide⟩
  rw [if_neg e6] at h ⊢
  by_cases e7 : k = 7
  · subst e7
    rw [if_pos rfl] at h
    by_cases ha : Pt.asked vt n = 0
    · rw [if_pos ha] at h; obtain ⟨rfl, _⟩ := pr h; exact ⟨rfl, by decide, by decide⟩
    · rw [if_neg ha] at h; exact absurd h (by simp)
  rw [if_neg e7] at h ⊢
  by_cases e8 : k = 8
  · subst e8
    rw [if_pos rfl] at h
    cases hp : Od.parse vt with
    | error e => rw [hp] at h; exact absurd h (by simp)
    | ok l => rw [hp] at h; obtain ⟨rfl, _⟩ := pr h; exact ⟨rfl, by decide, by decide⟩
  rw [if_neg e8] at h ⊢
  by_cases e9 : k = 9
  · subst e9
    rw [if_pos rfl] at h
    by_cases ha : n < 0 ∨ 253402300799 < n
    · rw [if_pos ha] at h; exact absurd h (by simp)
    · rw [if_neg ha] at h; obtain ⟨rfl, _⟩ := pr h; exact ⟨rfl, by decide, by decide⟩
  rw [if_neg e9] at h ⊢
  by_cases ha : n < 0 ∨ 32767 < n
  · rw [if_pos ha] at h; exact absurd h (by simp)
  · rw [if_neg ha] at h; obtain ⟨rfl, _⟩ := pr h; exact ⟨rfl, by decide, by decide⟩
/-- An element at the front is read, if it has the tag that is asked for. -/
theorem next_elem {t : Nat} {b r : List Nat} {L : List (List Nat)} (ht : Tl.known t = true) (hb : b.length ≤ 65530) :
    next ⟨0, Tl.elem t b ++ r, L⟩ (t : Int) = (⟨0, r, L⟩, some (b, Tl.elem t b)) := by
  unfold next
  rw [if_neg (fun h => h rfl)]
  simp only [Tl.first_ok t b r ht hb]
  rw [if_neg (by intro h; exact h.2 rfl), Tl.elem_rest, Tl.elem_body]
  have hl := Tl.elem_len t b
  rw [← hl, List.take_left' rfl]
/-- A value that was written is read as it was written. -/
theorem ask_elem {v : Val} {t : Nat} {b r : List Nat} {L : List (List Nat)} (hk : 3 ≤ v.kind ∧ v.kind ≤ 10) (hn : I64 v.n) (hb : v.b.length ≤ 300) (ht : v.t.length ≤ 300) (h : body v = .ok (t, b)) (hl : b.length ≤ 65530) :
    ask ⟨0, Tl.elem t b ++ r, L⟩ v.kind 0 (-9223372036854775808) 9223372036854775807 = (⟨0, r, L⟩, back v) := by
  obtain ⟨h1, h2, h3⟩ := body_tag hk h
  unfold ask
  rw [if_neg (fun h => h rfl), if_neg (by omega), if_neg (by omega), if_neg (by omega), ← h1, next_elem h3 hl]
  show (match said v.kind _ _ b with | .error e => _ | .ok v => _) = _
  rw [said_body hk hn hb ht h]
end De
end Go.Proofs.YtagdcjpjbjboeaaGreatDoor
namespace Go.Proofs.YtagdcjpjbjboeaaGreatDoor
namespace De
/-- An element that isn't made of others. -/
def Flat (x : List Nat) : Prop := ∃ t b, Tl.known (t : Nat) = true ∧ Tl.made (t : Nat) = false ∧ b.length ≤ 65530 ∧ x = Tl.elem t b
theorem loop_flat (k : Nat) : ∀ (xs : List (List Nat)) (f : Nat) (ah : List Nat) (d : Nat), (∀ x ∈ xs, Flat x) → xs.flatten.length ≤ f → ∃ m, Tl.loop (Tl.within (k + 1)) false false f xs.flatten ah d = .ok m
  | [], f, ah, d, _, _ => ⟨d, by cases f <;> simp [Tl.loop]⟩
  | x :: r, f, ah, d, hx, hf => by
    obtain ⟨t, b, hk, hm, hb, rfl⟩ := hx x (by simp)
    have hl := Tl.elem_len t b
    rw [List.flatten_cons, List.length_append, hl] at hf
    obtain ⟨g, rfl⟩ : ∃ g, f = g + 1 := ⟨f - 1, by omega⟩
    have hne : Tl.elem t b ++ r.flatten ≠ [] := by simp [Tl.elem]
    obtain ⟨m, hm2⟩ := loop_flat k r g ((Tl.elem t b ++ r.flatten).take (2 + Tl.more b.length + b.length)) (max d 1) (fun y hy => hx y (by simp [hy])) (by omega)
    refine ⟨m, ?_⟩
    rw [List.flatten_cons, Tl.loop, if_neg hne, Tl.first_ok t b _ hk hb]
    simp only [Bool.false_eq_true, if_false, Tl.within, hm, Bool.false_and]
    rw [Tl.elem_rest]
    exact hm2
/-- A list of such elements is whole. -/
theorem levels_flat {xs : List (List Nat)} (hx : ∀ x ∈ xs, Flat x) (hl : xs.flatten.length ≤ 65530) : ∃ m, Tl.levels (Tl.elem 48 xs.flatten) = .ok m := by
  obtain ⟨m, hm⟩ := loop_flat 14 xs xs.flatten.length [] 0 hx (Nat.le_refl _)
  refine ⟨1 + m, ?_⟩
  have he := Tl.elem_len 48 xs.flatten
  have hmo : Tl.more xs.flatten.length ≤ 2 := by unfold Tl.more; repeat' split
                                                 all_goals omega
  have hf := Tl.first_ok 48 xs.flatten [] (by decide) hl
  have hb := Tl.elem_body 48 xs.flatten []
  rw [List.append_nil] at hf hb
  unfold Tl.levels
  rw [if_neg (by omega), hf]
  show (if _ then _ else _) = _
  rw [if_neg (by omega), hb]
  show Tl.within (15 + 1) 48 xs.flatten = _
  rw [Tl.within, if_pos (by decide)]
  show (match Tl.loop (Tl.within 15) false false xs.flatten.length xs.flatten [] 0 with | .error e => _ | .ok d => _) = _
  rw [hm]
theorem body_len {v : Val} {t : Nat} {b : List Nat} (hb : v.b.length ≤ 300) (ht : v.t.length ≤ 300) (h : body v = .ok (t, b)) : b.length ≤ 300 := by
  have pr : ∀ {a c : Nat} {x y : List Nat}, (Except.ok (a, x) : Except Nat (Nat × List Nat)) = .ok (c, y) → x = y := fun e => (Prod.mk.inj (Except.ok.inj e)).2
  obtain ⟨k, n, is, vb, vt⟩ := v
  unfold body at h
  simp only at *
  have hw := Wh.body_len n
  by_cases e3 : k = 3
  · rw [if_pos e3] at h; rw [← pr h]; omega
  rw [if_neg e3] at h
  by_cases e4 : k = 4
  · rw [if_pos e4] at h; rw [← pr h]; omega
  rw [if_neg e4] at h
  by_cases e5 : k = 5
  · rw [if_pos e5] at h; rw [← pr h]; simp
  rw [if_neg e5] at h
  by_cases e6 : k = 6
  · rw [if_pos e6] at h; rw [← pr h]; exact hb
  rw [if_neg e6] at h
  by_cases e7 : k = 7
  · rw [if_pos e7] at h
    by_cases ha : Pt.asked vt n = 0
    · rw [if_pos ha] at h; rw [← pr h]; exact ht
    · rw [if_neg ha] at h; exact absurd h (by simp)
  rw [if_neg e7] at h
  by_cases e8 : k = 8
  · rw [if_pos e8] at h
    cases hp : Od.parse vt with
    | error e => rw [hp] at h; exact absurd h (by simp)
    | ok l =>
      rw [hp] at h
      rw [← pr h]
      have hr := ((Od.right_iff l).1 (Od.parse_ok hp).2).1
      have h1 := Od.rest_len (l.drop 2)
      have h2 := Od.septUpto_len (40 * (l.getD 0 0).toNat + (l.getD 1 0).toNat) 6
      rw [List.length_drop] at h1
      show (Od.septUpto _ 6 ++ _).length ≤ _
      rw [List.length_append]
      omega
  rw [if_neg e8] at h
  by_cases e9 : k = 9
  · rw [if_pos e9] at h
    by_cases ha : n < 0 ∨ 253402300799 < n
    · rw [if_pos ha] at h; exact absurd h (by simp)
    · rw [if_neg ha] at h; rw [← pr h, Cal.text_len]; decide
  rw [if_neg e9] at h
  by_cases ha : n < 0 ∨ 32767 < n
  · rw [if_pos ha] at h; exact absurd h (by simp)
  · rw [if_neg ha] at h; rw [← pr h]; have := Pt.flags_len n.toNat; omega
theorem parse_err {l : List Nat} {e : Nat} (h : Od.parse l = .error e) : e ≠ 0 := by
  intro h0
  subst h0
  unfold Od.parse at h
  split at h
  · exact absurd (Except.error.inj h) (by decide)
  · split at h
    · exact absurd h (by simp)
    · exact absurd (Except.error.inj h) (by decide)
theorem body_err {v : Val} {e : Nat} (h : body v = .error e) : e ≠ 0 := by
  obtain ⟨k, n, is, vb, vt⟩ := v
  unfold body at h
  simp only at h
  by_cases e3 : k = 3
  · rw [if_pos e3] at h; exact absurd h (by simp)
  rw [if_neg e3] at h
  by_cases e4 : k = 4
  · rw [if_pos e4] at h; exact absurd h (by simp)
  rw [if_neg e4] at h
  by_cases e5 : k = 5
  · rw [if_pos e5] at h; exact absurd h (by simp)
  rw [if_neg e5] at h
  by_cases e6 : k = 6
  · rw [if_pos e6] at h; exact absurd h (by simp)
  rw [if_neg e6] at h
  by_cases e7 : k = 7
  · rw [if_pos e7] at h
    by_cases ha : Pt.asked vt n = 0
    · rw [if_pos ha] at h; exact absurd h (by simp)
    · rw [if_neg ha] at h; rw [← Except.error.inj h]; exact ha
  rw [if_neg e7] at h
  by_cases e8 : k = 8
  · rw [if_pos e8] at h
    cases hp : Od.parse vt with
    | error e2 => rw [hp] at h; rw [← Except.error.inj h]; exact parse_err hp
    | ok l => rw [hp] at h; exact absurd h (by simp)
  rw [if_neg e8] at h
  by_cases e9 : k = 9
  · rw [if_pos e9] at h
    by_cases ha : n < 0 ∨ 253402300799 < n
    · rw [if_pos ha] at h; rw [← Except.error.inj h]; decide
    · rw [if_neg ha] at h; exact absurd h (by simp)
  rw [if_neg e9] at h
  by_cases ha : n < 0 ∨ 32767 < n
  · rw [if_pos ha] at h; rw [← Except.error.inj h]; decide
  · rw [if_neg ha] at h; exact absurd h (by simp)
/-- A value that is asked for: of a kind with a body, no greater than a law takes. -/
def Fit (v : Val) : Prop := (3 ≤ v.kind ∧ v.kind ≤ 10) ∧ I64 v.n ∧ v.b.length ≤ 300 ∧ v.t.length ≤ 300
/-- Its element; none, if it has no body. -/
def elemOf (v : Val) : List Nat := match body v with
  | .error _ => []
  | .ok (t, b) => Tl.elem t b
/-- Has it a body? -/
def has (v : Val) : Bool := match body v with
  | .error _ => false
  | .ok _ => true
theorem has_ok {v : Val} (h : has v = true) : ∃ t b, body v = .ok (t, b) := by
  unfold has at h
  cases hb : body v with
  | error e => rw [hb] at h; exact absurd h (by simp)
  | ok p => exact ⟨p.1, p.2, rfl⟩
theorem elemOf_ok {v : Val} {t : Nat} {b : List Nat} (h : body v = .ok (t, b)) : elemOf v = Tl.elem t b := by
  unfold elemOf; rw [h]
theorem elem_flat {v : Val} (hf : Fit v) (h : has v = true) : Flat (elemOf v) ∧ (elemOf v).length ≤ 306 := by
  obtain ⟨t, b, hb⟩ := has_ok h
  obtain ⟨h1, h2, h3⟩ := body_tag hf.1 hb
  have hl := body_len hf.2.2.1 hf.2.2.2 hb
  rw [elemOf_ok hb]
  refine ⟨⟨t, b, h3, h2, by omega, rfl⟩, ?_⟩
  rw [Tl.elem_len]
  have := Tl.more_le b.length
  omega
theorem elems_len : ∀ {l : List Val}, (∀ v ∈ l, Fit v ∧ has v = true) → ((l.map elemOf).flatten).length ≤ 306 * l.length
  | [], _ => by simp
  | v :: r, h => by
    have h1 := elem_flat (h v (by simp)).1 (h v (by simp)).2
    have h2 := elems_len (l := r) (fun x hx => h x (by simp [hx]))
    rw [List.map_cons, List.flatten_cons, List.length_append, List.length_cons]
    omega
/-- A value that has a body, written into what is open, or alone. -/
theorem step_plain {s : St} {v : Val} (hf : Fit v) (he : s.e = 0) : step s v = if has v = true then add s (elemOf v) else step s v := by
  by_cases h : has v = true
  · rw [if_pos h]
    obtain ⟨t, b, hb⟩ := has_ok h
    have hl := body_len hf.2.2.1 hf.2.2.2 hb
    have hk := hf.1
    unfold step
    rw [if_neg (by rw [he]; decide), if_neg (by omega), if_neg (by omega), if_neg (by omega), plainV, hb]
    show put s t b = _
    rw [put, if_neg (by omega), elemOf_ok hb]
  · rw [if_neg h]
/-- Alone it is done just if it has a body. -/
theorem one_done {v : Val} (hf : Fit v) : (∃ l, done (step St.zero v) = .ok l) ↔ has v = true := by
  constructor
  · intro ⟨l, h⟩
    apply Decidable.byContradiction
    intro hn
    have hk := hf.1
    unfold has at hn
    unfold step at h
    rw [if_neg (by decide), if_neg (by omega), if_neg (by omega), if_neg (by omega), plainV] at h
    cases hb : body v with
    | ok p => rw [hb] at hn; exact hn rfl
    | error e =>
      rw [hb] at h
      unfold done at h
      have he : e ≠ 0 := by
        exact body_err hb
      exact absurd h (by simp [he])
  · intro h
    obtain ⟨h1, h2⟩ := elem_flat hf h
    rw [step_plain hf rfl, if_pos h]
    refine ⟨elemOf v, ?_⟩
    show (if _ then _ else _) = _
    simp [St.zero, add, List.flatten]
    omega
/-- What was asked of a row of values: all come back, and nothing is left. -/
def asks : Rd → List Val → Rd × List Val
  | s, [] => (s, [])
  | s, v :: r => let (s2, x) := ask s v.kind 0 (-9223372036854775808) 9223372036854775807
    let (s3, xs) := asks s2 r
    (s3, x :: xs)
theorem asks_elems (L : List (List Nat)) : ∀ {l : List Val}, (∀ v ∈ l, Fit v ∧ has v = true) → asks ⟨0, (l.map elemOf).flatten, L⟩ l = (⟨0, [], L⟩, l.map back)
  | [], _ => rfl
  | v :: r, h => by
    obtain ⟨hf, hh⟩ := h v (by simp)
    obtain ⟨t, b, hb⟩ := has_ok hh
    have hl := body_len hf.2.2.1 hf.2.2.2 hb
    have ih := asks_elems L (l := r) (fun x hx => h x (by simp [hx]))
    rw [List.map_cons, List.flatten_cons, elemOf_ok hb, asks, ask_elem hf.1 hf.2.1 hf.2.2.1 hf.2.2.2 hb (by omega)]
    show (let (s3, xs) := asks ⟨0, _, L⟩ r; (s3, back v :: xs)) = _
    rw [ih]
    rfl
end De
end Go.Proofs.YtagdcjpjbjboeaaGreatDoor
namespace Go.Proofs.YtagdcjpjbjboeaaGreatDoor
namespace De
theorem strOf_at (l : List Nat) (i : Nat) (h : i < l.length) : (strOf l)[i]! = UInt8.ofNat (l.getD i 0) := by
  have hs : i < (strOf l).size := by rw [strOf_size]; exact h
  rw [getElem!_pos (strOf l) i hs, List.getD_eq_getElem?_getD, List.getElem?_eq_getElem h]
  show ((l.map UInt8.ofNat).toArray)[i]'(by simpa using h) = _
  rw [List.getElem_toArray, List.getElem_map]
  rfl
theorem ne_at {x y : Nat} (hx : x < 256) (hy : y < 256) : (UInt8.ofNat x != UInt8.ofNat y) = decide (x ≠ y) := by
  rw [Bool.eq_iff_iff]
  simp only [bne_iff_ne, ne_eq, decide_eq_true_eq]
  refine not_congr ⟨fun h => ?_, fun h => by rw [h]⟩
  have := congrArg UInt8.toNat h
  rw [UInt8.toNat_ofNat', UInt8.toNat_ofNat', Nat.mod_eq_of_lt hx, Nat.mod_eq_of_lt hy] at this
  exact this
theorem lt_at {x y : Nat} (hx : x < 256) (hy : y < 256) : (UInt8.ofNat x < UInt8.ofNat y) ↔ x < y := by
  rw [UInt8.lt_iff_toNat_lt, UInt8.toNat_ofNat', UInt8.toNat_ofNat', Nat.mod_eq_of_lt hx, Nat.mod_eq_of_lt hy]
/-- Where lists first differ tells their order. -/
theorem lex_at : ∀ (a b : List Nat) (i : Nat), (∀ j, j < i → a.getD j 0 = b.getD j 0) → i ≤ a.length → i ≤ b.length →
    (i < a.length → i < b.length → a.getD i 0 ≠ b.getD i 0 → Cal.lex a b = decide (a.getD i 0 < b.getD i 0)) ∧
    (i = a.length ∨ i = b.length → Cal.lex a b = decide (a.length < b.length))
  | [], [], i, _, ha, _ => ⟨fun h => absurd h (by simp), fun _ => by simp [Cal.lex]⟩
  | [], y :: s, i, _, ha, _ => ⟨fun h => absurd h (by simp), fun _ => by simp [Cal.lex]⟩
  | x :: r, [], i, _, _, hb => ⟨fun _ h => absurd h (by simp), fun _ => by simp [Cal.lex]⟩
  | x :: r, y :: s, 0, _, _, _ => ⟨fun _ _ h => by
      simp only [List.getD_cons_zero] at h ⊢
      rw [Cal.lex, if_neg h], fun h => by simp at h⟩
  | x :: r, y :: s, i + 1, hj, ha, hb => by
    have e : x = y := by simpa using hj 0 (by omega)
    subst e
    have ih := lex_at r s i (fun j h => by simpa using hj (j + 1) (by omega)) (by simpa using ha) (by simpa using hb)
    simp only [List.getD_cons_succ, List.length_cons] at ih ⊢
    rw [Cal.lex, if_pos rfl]
    refine ⟨fun h1 h2 h3 => ih.1 (by omega) (by omega) h3, fun h => ?_⟩
    rw [ih.2 (by omega)]
    simp
/-- The order of the model's bytes is that of lists. -/
theorem cmp_lex {a b : List Nat} (ha : ∀ x ∈ a, x < 256) (hb : ∀ x ∈ b, x < 256) : decide (Tl.cmpB a b < 0) = Cal.lex a b := by
  have ga : ∀ i, a.getD i 0 < 256 := fun i => by
    rw [List.getD_eq_getElem?_getD]
    cases h : a[i]? with
    | none => exact Nat.zero_lt_succ _
    | some x => exact ha x (List.mem_of_getElem? h)
  have gb : ∀ i, b.getD i 0 < 256 := fun i => by
    rw [List.getD_eq_getElem?_getD]
    cases h : b[i]? with
    | none => exact Nat.zero_lt_succ _
    | some x => exact hb x (List.mem_of_getElem? h)
  unfold Tl.cmpB Extern.BytealgCompare.cmp
  rw [strOf_size, strOf_size]
  have pe : ∀ i, i < min a.length b.length → ((strOf a)[i]! != (strOf b)[i]!) = decide (a.getD i 0 ≠ b.getD i 0) := fun i h => by
    rw [strOf_at a i (by omega), strOf_at b i (by omega), ne_at (ga i) (gb i)]
  cases hf : (List.range (min a.length b.length)).find? fun i => (strOf a)[i]! != (strOf b)[i]! with
  | none =>
    rw [List.find?_range_eq_none] at hf
    have hj : ∀ j, j < min a.length b.length → a.getD j 0 = b.getD j 0 := fun j h => by
      have := hf j h
      rw [pe j h] at this
      simpa using this
    have hl := (lex_at a b (min a.length b.length) hj (by omega) (by omega)).2 (by omega)
    rw [hl]
    show decide ((if a.length < b.length then (-1 : Int) else if a.length > b.length then 1 else 0) < 0) = _
    by_cases h1 : a.length < b.length
    · rw [if_pos h1]; simp [h1]
    · rw [if_neg h1]; split <;> simp [h1]
  | some i =>
    rw [List.find?_range_eq_some] at hf
    obtain ⟨h1, h2, h3⟩ := hf
    have hi : i < min a.length b.length := List.mem_range.1 h2
    rw [pe i hi] at h1
    have hj : ∀ j, j < i → a.getD j 0 = b.getD j 0 := fun j h => by
      have := h3 j h
      rw [pe j (by omega)] at this
      simpa using this
    have hl := (lex_at a b i hj (by omega) (by omega)).1 (by omega) (by omega) (by simpa using h1)
    rw [hl]
    show decide ((if (strOf a)[i]! < (strOf b)[i]! then (-1 : Int) else 1) < 0) = _
    rw [strOf_at a i (by omega), strOf_at b i (by omega)]
    by_cases h : a.getD i 0 < b.getD i 0
    · rw [if_pos ((lt_at (ga i) (gb i)).2 h)]; simp only [h]; decide
    · rw [if_neg (fun h2 => h ((lt_at (ga i) (gb i)).1 h2))]; simp only [h]; decide
/-- No fault but that it may be too deep. -/
def Deep (r : Except Nat Nat) : Prop := (∃ m, r = .ok m) ∨ r = .error 6
/-- An element that is whole, or too deep. -/
def Ok (x : List Nat) : Prop := ∃ t b, Tl.known (t : Nat) = true ∧ b.length ≤ 65530 ∧ x = Tl.elem t b ∧ (∀ z ∈ b, z < 256) ∧ Deep (Tl.within 16 t b)
theorem levels_elem {t : Nat} {b : List Nat} (ht : Tl.known (t : Nat) = true) (hb : b.length ≤ 65530) : Tl.levels (Tl.elem t b) = Tl.within 16 t b := by
  have he := Tl.elem_len t b
  have hmo : Tl.more b.length ≤ 2 := by
    unfold Tl.more
    repeat' split
    all_goals omega
  have hf := Tl.first_ok t b [] ht hb
  have h2 := Tl.elem_body t b []
  rw [List.append_nil] at hf h2
  unfold Tl.levels
  rw [if_neg (by omega), hf]
  show (if _ then _ else _) = _
  rw [if_neg (by omega), h2]
theorem Ok.levels {x : List Nat} (h : Ok x) : Deep (Tl.levels x) := by
  obtain ⟨t, b, h1, h2, rfl, _, h3⟩ := h
  rw [levels_elem h1 h2]; exact h3
theorem Ok.lt {x : List Nat} (h : Ok x) : ∀ z ∈ x, z < 256 := by
  obtain ⟨t, b, h1, _, rfl, h3, _⟩ := h
  have := Tl.known_nat _ h1
  exact Tl.elem_lt (by omega) h3
end De
end Go.Proofs.YtagdcjpjbjboeaaGreatDoor
namespace Go.Proofs.YtagdcjpjbjboeaaGreatDoor
namespace De
theorem foldl_num (l : List Nat) : ∀ a, l.foldl (fun a x => 256 * a + x) a = a * 256 ^ l.length + Tl.num l := by
  induction l with
  | nil => intro a; simp [Tl.num]
  | cons x r ih =>
    intro a
    have e : Tl.num (x :: r) = (256 * 0 + x) * 256 ^ r.length + Tl.num r := ih _
    rw [List.foldl_cons, ih, e, List.length_cons, Nat.pow_succ, Nat.add_mul, Nat.add_mul, Nat.mul_comm 256 a, Nat.mul_assoc a 256, Nat.mul_comm 256 (256 ^ r.length)]
    omega
theorem num_cons (x : Nat) (r : List Nat) : Tl.num (x :: r) = x * 256 ^ r.length + Tl.num r := by
  have e : Tl.num (x :: r) = (256 * 0 + x) * 256 ^ r.length + Tl.num r := foldl_num r _
  rw [e, Nat.mul_zero, Nat.zero_add]
theorem num_lt2 : ∀ {l : List Nat}, (∀ x ∈ l, x < 256) → Tl.num l < 256 ^ l.length
  | [], _ => by simp [Tl.num]
  | x :: r, h => by
    have ih := num_lt2 (l := r) (fun y hy => h y (by simp [hy]))
    have hx := h x (by simp)
    rw [num_cons, List.length_cons, Nat.pow_succ]
    have : x * 256 ^ r.length ≤ 255 * 256 ^ r.length := Nat.mul_le_mul_right _ (by omega)
    omega
theorem be_add (x : Nat) : ∀ (k j n : Nat), k ≤ j → Tl.be k (x * 256 ^ j + n) = Tl.be k n
  | 0, _, _, _ => rfl
  | k + 1, j, n, h => by
    rw [Tl.be, Tl.be, be_add x k j n (by omega)]
    have e : x * 256 ^ j = (x * 256 ^ (j - k - 1) * 256) * 256 ^ k := by
      rw [Nat.mul_assoc, Nat.mul_assoc, ← Nat.pow_succ', ← Nat.pow_add, show j - k - 1 + (k + 1) = j by omega]
    rw [e, Nat.mul_comm _ (256 ^ k), Nat.mul_add_div (Nat.pow_pos (by decide)), Nat.mul_comm _ 256, Nat.mul_add_mod]
theorem be_num : ∀ {l : List Nat}, (∀ x ∈ l, x < 256) → Tl.be l.length (Tl.num l) = l
  | [], _ => rfl
  | x :: r, h => by
    have ih := be_num (l := r) (fun y hy => h y (by simp [hy]))
    have hx := h x (by simp)
    have hr := num_lt2 (l := r) (fun y hy => h y (by simp [hy]))
    rw [num_cons, List.length_cons, Tl.be, be_add x _ _ _ (Nat.le_refl _), ih, Nat.mul_comm, Nat.mul_add_div (Nat.pow_pos (by decide)), Nat.div_eq_of_lt hr, Nat.add_zero, Nat.mod_eq_of_lt hx]
theorem rdLen_inv {r : List Nat} {n k : Nat} (h8 : ∀ x ∈ r, x < 256) (h : Tl.rdLen r = .ok (n, k)) : k = 1 + Tl.more n ∧ n ≤ 65530 ∧ k ≤ r.length ∧ r.take k = Tl.lenB n := by
  have pr : ∀ {a b c d : Nat}, (Except.ok (a, b) : Except Nat (Nat × Nat)) = .ok (c, d) → a = c ∧ b = d := fun e => Prod.mk.inj (Except.ok.inj e)
  match r, h8, h with
  | x :: s, h8, h =>
    rw [Tl.rdLen] at h
    by_cases h1 : x < 128
    · rw [if_pos h1] at h
      obtain ⟨rfl, rfl⟩ := pr h
      have hm : Tl.more x = 0 := by unfold Tl.more; rw [if_pos h1]
      refine ⟨by rw [hm], by omega, by simp, ?_⟩
      unfold Tl.lenB
      rw [if_pos h1]
      rfl
    rw [if_neg h1] at h
    by_cases h2 : x = 128 ∨ 132 < x
    · rw [if_pos h2] at h; exact absurd h (by simp)
    rw [if_neg h2] at h
    by_cases h3 : s.length < x - 128
    · rw [if_pos h3] at h; exact absurd h (by simp)
    rw [if_neg h3] at h
    obtain ⟨q, hq⟩ : ∃ q, x = 128 + q := ⟨x - 128, by omega⟩
    rw [show x - 128 = q by omega] at h h3
    by_cases h4 : Tl.more (Tl.num (s.take q)) ≠ q
    · rw [if_pos h4] at h; exact absurd h (by simp)
    rw [if_neg h4] at h
    have h4 : Tl.more (Tl.num (s.take q)) = q := Decidable.byContradiction h4
    by_cases h5 : 65530 < Tl.num (s.take q)
    · rw [if_pos h5] at h; exact absurd h (by simp)
    rw [if_neg h5] at h
    obtain ⟨hn, rfl⟩ := pr h
    have hl : (s.take q).length = q := by rw [List.length_take]; omega
    have hb := be_num (l := s.take q) (fun y hy => h8 y (by simp [List.mem_of_mem_take hy]))
    rw [hl, hn] at hb
    rw [hn] at h4 h5
    refine ⟨by omega, by omega, by simp only [List.length_cons]; omega, ?_⟩
    have h128 : ¬ n < 128 := by
      intro h6
      unfold Tl.more at h4
      rw [if_pos h6] at h4
      omega
    unfold Tl.lenB
    rw [if_neg h128, h4, hb, Nat.add_comm 1 q, List.take_succ_cons, hq]
/-- What is read as the first element is that element's bytes. -/
theorem first_inv {b : List Nat} {t i n : Nat} (h8 : ∀ x ∈ b, x < 256) (h : Tl.first b = .ok (t, i, n)) :
    Tl.known (t : Nat) = true ∧ n ≤ 65530 ∧ i + n ≤ b.length ∧ ((b.drop i).take n).length = n ∧ b.take (i + n) = Tl.elem t ((b.drop i).take n) := by
  match b, h8, h with
  | x :: r, h8, h =>
    rw [Tl.first] at h
    by_cases h1 : Tl.known (x : Nat) = false
    · rw [if_pos h1] at h; exact absurd h (by simp)
    rw [if_neg h1] at h
    cases hr : Tl.rdLen r with
    | error e => rw [hr] at h; exact absurd h (by simp)
    | ok p =>
      obtain ⟨m, k⟩ := p
      rw [hr] at h
      have h : (if r.length - k < m then (Except.error 2 : Except Nat (Nat × Nat × Nat)) else .ok (x, 1 + k, m)) = .ok (t, i, n) := h
      by_cases h2 : r.length - k < m
      · rw [if_pos h2] at h; exact absurd h (by simp)
      rw [if_neg h2] at h
      obtain ⟨rfl, h3⟩ := Prod.mk.inj (Except.ok.inj h)
      obtain ⟨rfl, rfl⟩ := Prod.mk.inj h3
      obtain ⟨hk, hm, hkl, hlen⟩ := rdLen_inv (fun y hy => h8 y (by simp [hy])) hr
      have hl : (((x :: r).drop (1 + k)).take m).length = m := by
        rw [List.length_take, List.length_drop, List.length_cons]; omega
      refine ⟨by simpa using h1, hm, by simp only [List.length_cons]; omega, hl, ?_⟩
      rw [Tl.elem, hl, ← hlen, Nat.add_comm 1 k, show k + 1 + m = (k + m) + 1 by omega, List.take_succ_cons, List.drop_succ_cons, ← List.take_add]
end De
end Go.Proofs.YtagdcjpjbjboeaaGreatDoor
namespace Go.Proofs.YtagdcjpjbjboeaaGreatDoor
namespace De
theorem rest_lt : ∀ (l : List Int), ∀ x ∈ Od.rest l, x < 256
  | [] => by simp [Od.rest]
  | n :: r => by
    intro x hx
    rw [Od.rest, List.mem_append] at hx
    rcases hx with h | h
    · exact Od.septUpto_lt n.toNat 6 x h
    · exact rest_lt r x h
theorem oput_lt (l : List Int) : ∀ x ∈ Od.put l, x < 256 := by
  intro x hx
  rcases List.mem_append.1 hx with h | h
  · exact Od.septUpto_lt _ 6 x h
  · exact rest_lt _ x h
theorem two_lt (n : Nat) (h : n < 100) : ∀ x ∈ Cal.two n, x < 256 := by
  intro x hx
  simp only [Cal.two, List.mem_cons, List.not_mem_nil, or_false] at hx
  omega
theorem ctext_lt {d : Cal.Date} (h : Cal.Right d) : ∀ x ∈ Cal.text d, x < 256 := by
  obtain ⟨⟨y1, y2⟩, ⟨m1, m2⟩, ⟨d1, d2⟩, h1, h2, h3⟩ := h
  have hd := (Cal.days_pos (y := d.Y) m1 m2).2
  intro x hx
  simp only [Cal.text, List.mem_append] at hx
  rcases hx with h | h | h | h | h | h | h | h
  · exact two_lt _ (by omega) x h
  · exact two_lt _ (by omega) x h
  · exact two_lt _ (by omega) x h
  · exact two_lt _ (by omega) x h
  · exact two_lt _ (by omega) x h
  · exact two_lt _ (by omega) x h
  · exact two_lt _ (by omega) x h
  · rw [List.mem_singleton] at h; omega
/-- A value whose bytes are bytes. -/
def Byt (v : Val) : Prop := (∀ z ∈ v.b, z < 256) ∧ (∀ z ∈ v.t, z < 256)
theorem body_lt {v : Val} {t : Nat} {b : List Nat} (hv : Byt v) (h : body v = .ok (t, b)) : (∀ z ∈ b, z < 256) ∧ Tl.made (t : Nat) = false ∧ Tl.known (t : Nat) = true := by
  have pr : ∀ {a c : Nat} {x y : List Nat}, (Except.ok (a, x) : Except Nat (Nat × List Nat)) = .ok (c, y) → a = c ∧ x = y := fun e => Prod.mk.inj (Except.ok.inj e)
  obtain ⟨hb, ht⟩ := hv
  obtain ⟨k, n, is, vb, vt⟩ := v
  unfold body at h
  simp only at *
  by_cases e3 : k = 3
  · rw [if_pos e3] at h; obtain ⟨rfl, rfl⟩ := pr h; exact ⟨Wh.body_lt n, by decide, by decide⟩
  rw [if_neg e3] at h
  by_cases e4 : k = 4
  · rw [if_pos e4] at h; obtain ⟨rfl, rfl⟩ := pr h; exact ⟨Wh.body_lt n, by decide, by decide⟩
  rw [if_neg e4] at h
  by_cases e5 : k = 5
  · rw [if_pos e5] at h; obtain ⟨rfl, rfl⟩ := pr h; exact ⟨by cases is <;> simp, by decide, by decide⟩
  rw [if_neg e5] at h
  by_cases e6 : k = 6
  · rw [if_pos e6] at h; obtain ⟨rfl, rfl⟩ := pr h; exact ⟨hb, by decide, by decide⟩
  rw [if_neg e6] at h
  by_cases e7 : k = 7
  · rw [if_pos e7] at h
    by_cases ha : Pt.asked vt n = 0
    · rw [if_pos ha] at h; obtain ⟨rfl, rfl⟩ := pr h; exact ⟨ht, by decide, by decide⟩
    · rw [if_neg ha] at h; exact absurd h (by simp)
  rw [if_neg e7] at h
  by_cases e8 : k = 8
  · rw [if_pos e8] at h
    cases hp : Od.parse vt with
    | error e => rw [hp] at h; exact absurd h (by simp)
    | ok l => rw [hp] at h; obtain ⟨rfl, rfl⟩ := pr h; exact ⟨oput_lt l, by decide, by decide⟩
  rw [if_neg e8] at h
  by_cases e9 : k = 9
  · rw [if_pos e9] at h
    by_cases ha : n < 0 ∨ 253402300799 < n
    · rw [if_pos ha] at h; exact absurd h (by simp)
    · rw [if_neg ha] at h; obtain ⟨rfl, rfl⟩ := pr h; exact ⟨ctext_lt (Cal.of_right (by omega)).1, by decide, by decide⟩
  rw [if_neg e9] at h
  by_cases ha : n < 0 ∨ 32767 < n
  · rw [if_pos ha] at h; exact absurd h (by simp)
  · rw [if_neg ha] at h; obtain ⟨rfl, rfl⟩ := pr h; exact ⟨Pt.flags_lt _ (by omega), by decide, by decide⟩
/-- The elements of bytes, up to their end. -/
def all : Nat → List Nat → Except Nat (List (Nat × List Nat))
  | 0, _ => .ok []
  | f + 1, b => if b = [] then .ok [] else match Tl.first b with
    | .error e => .error e
    | .ok (t, i, n) => match all f (b.drop (i + n)) with
      | .error e => .error e
      | .ok r => .ok ((t, (b.drop i).take n) :: r)
/-- Values with bodies, written into what is open. -/
theorem steps_open {t : Nat} {r : List (Nat × List (List Nat))} {dn : List (List Nat)} : ∀ (l : List Val) (xs : List (List Nat)), (∀ v ∈ l, Fit v ∧ has v = true) →
    l.foldl step ⟨0, (t, xs) :: r, dn⟩ = ⟨0, (t, xs ++ l.map elemOf) :: r, dn⟩
  | [], xs, _ => by simp
  | v :: l, xs, h => by
    obtain ⟨hf, hh⟩ := h v (by simp)
    rw [List.foldl_cons, step_plain hf rfl, if_pos hh]
    show l.foldl step ⟨0, (t, xs ++ [elemOf v]) :: r, dn⟩ = _
    rw [steps_open l (xs ++ [elemOf v]) (fun x hx => h x (by simp [hx])), List.map_cons, List.append_assoc]
    rfl
/-- All of it: one list of values, read as it was written. -/
theorem back_all {l : List Val} (h : ∀ v ∈ l, Fit v ∧ has v = true) (hl : l.length ≤ 60) :
    ∃ b, b = Tl.elem 48 (l.map elemOf).flatten ∧ b.length ≤ 18400 ∧ cls (l.foldl step (opn St.zero 48)) = ⟨0, [], [b]⟩ ∧ done ⟨0, [], [b]⟩ = .ok b ∧ start b = ⟨0, b, []⟩ ∧
      enter (start b) 48 = (⟨0, (l.map elemOf).flatten, [[]]⟩, true) ∧ asks ⟨0, (l.map elemOf).flatten, [[]]⟩ l = (⟨0, [], [[]]⟩, l.map back) ∧ leave ⟨0, [], [[]]⟩ = ⟨0, [], []⟩ ∧ fin ⟨0, [], []⟩ = 0 := by
  have hel := elems_len h
  have hfl : ∀ x ∈ l.map elemOf, Flat x := fun x hx => by
    obtain ⟨v, hv, rfl⟩ := List.mem_map.1 hx
    exact (elem_flat (h v hv).1 (h v hv).2).1
  obtain ⟨m, hm⟩ := levels_flat hfl (by omega)
  have hlen := Tl.elem_len 48 (l.map elemOf).flatten
  have hmo := Tl.more_le (l.map elemOf).flatten.length
  have hst : start (Tl.elem 48 (l.map elemOf).flatten) = ⟨0, Tl.elem 48 (l.map elemOf).flatten, []⟩ := by unfold start; rw [hm]
  refine ⟨_, rfl, by omega, ?_, ?_, hst, ?_, asks_elems [[]] h, rfl, rfl⟩
  · have ho : opn St.zero 48 = ⟨0, [(48, [])], []⟩ := rfl
    rw [ho, steps_open l [] h, List.nil_append]
    show put ⟨0, [], []⟩ 48 (l.map elemOf).flatten = _
    rw [put, if_neg (by omega)]
    rfl
  · unfold done
    rw [if_neg (fun h => h rfl), if_neg (fun h => h rfl), List.flatten_cons, List.flatten_nil, List.append_nil, if_neg (by omega)]
  · rw [hst]
    have hn := next_elem (t := 48) (b := (l.map elemOf).flatten) (r := []) (L := []) (by decide) (by omega)
    rw [List.append_nil, show ((48 : Nat) : Int) = 48 from rfl] at hn
    unfold enter
    rw [if_neg (fun h => h rfl), if_neg (by intro h; exact absurd h.2 (by decide)), hn]
end De
end Go.Proofs.YtagdcjpjbjboeaaGreatDoor
namespace Go.Proofs.YtagdcjpjbjboeaaGreatDoor
namespace De
/-- A body's elements, of which each may have so many levels. -/
def whole (levels : Nat) (set : Bool) (b : List Nat) : Except Nat Nat := Tl.loop (Tl.within levels) (decide (levels = 0)) set b.length b [] 0
theorem within_whole (k t : Nat) (b : List Nat) : Tl.within (k + 1) t b = if Tl.made t = true then (match whole k (decide (t = 49)) b with
    | .error e => .error e
    | .ok d => .ok (1 + d)) else .ok 1 := by
  rw [Tl.within]
  rfl
/-- The document's Check. -/
def check (b : List Nat) : Except Nat Nat := if 65536 < b.length then .error 3 else match Tl.first b with
  | .error e => .error e
  | .ok (_, i, n) => if i + n < b.length then .error 4 else whole 16 false b
theorem check_levels (b : List Nat) (h8 : ∀ x ∈ b, x < 256) : check b = Tl.levels b := by
  unfold check Tl.levels
  by_cases h1 : 65536 < b.length
  · rw [if_pos h1, if_pos h1]
  rw [if_neg h1, if_neg h1]
  cases hf : Tl.first b with
  | error e => rfl
  | ok p =>
    obtain ⟨t, i, n⟩ := p
    show (if _ then _ else _) = (if _ then _ else _)
    by_cases h2 : i + n < b.length
    · rw [if_pos h2, if_pos h2]
    rw [if_neg h2, if_neg h2]
    obtain ⟨_, _, hl, _, _⟩ := first_inv h8 hf
    have hne : b ≠ [] := by
      intro h
      subst h
      exact absurd hf (by simp [Tl.first])
    obtain ⟨g, hg⟩ : ∃ g, b.length = g + 1 := ⟨b.length - 1, by cases b with
      | nil => exact absurd rfl hne
      | cons x r => simp⟩
    unfold whole
    rw [hg, Tl.loop, if_neg hne, hf]
    simp only [Bool.false_eq_true, if_false, Bool.false_and, Nat.reduceEqDiff, decide_false]
    cases hw : Tl.within 16 t ((b.drop i).take n) with
    | error e => rfl
    | ok m =>
      show Tl.loop _ _ _ g (b.drop (i + n)) _ _ = _
      rw [List.drop_eq_nil_of_le (by omega)]
      cases g with
      | zero => rw [Tl.loop, Nat.zero_max]
      | succ g => rw [Tl.loop, if_pos rfl, Nat.zero_max]
end De
end Go.Proofs.YtagdcjpjbjboeaaGreatDoor
namespace Go.Proofs.YtagdcjpjbjboeaaGreatDoor
open Go.RowKit
set_option linter.unusedVariables false
/-- A row of elements: slices with these bytes; it is said of F's blocks. -/
def Lev (x : Value) (ys : List Value) (L : List (List Nat)) (w : World) : Prop := Vals w x ys ∧ Each w ys L ∧ Whole0 x
def LevS (F : Nat → Prop) (w : World) (x : Value) (L : List (List Nat)) : Prop := ∃ ys, Sup F w (Lev x ys L)
theorem LevS.upto {F O : Nat → Prop} {w w' : World} {x : Value} {L : List (List Nat)} (h : LevS F w x L) (hu : Upto O w w') (hd : ∀ k, F k → ¬ O k) : LevS F w' x L := by
  obtain ⟨ys, h⟩ := h
  exact ⟨ys, h.upto hu hd⟩
theorem LevS.nil {F : Nat → Prop} {w : World} (hF : ∀ k, F k → k < w.heap.size) : LevS F w (.slice none 0 0) [] := ⟨[], hF, fun w' _ => ⟨Vals.nil w', trivial, fun n c e => by cases e; exact ⟨rfl, rfl⟩⟩⟩
def tagsOf (s : De.St) : List Int := (s.op.map fun p => (p.1 : Int)).reverse
def levOf (s : De.St) (k : Nat) : List (List Nat) := if k = 0 then s.dn else (s.op.reverse.getD (k - 1) (0, [])).2
theorem tagsOf_len (s : De.St) : (tagsOf s).length = s.op.length := by simp [tagsOf]
/-- F's blocks and W0's, but for a struct's own and its rows'. -/
def Im (W0 : World) (F : Nat → Prop) (b : Nat) (rv : Value) (k : Nat) : Prop := Or0 W0 F k ∧ k ≠ b ∧ rv.ownBlock ≠ some k
/-- What is open, and what was written into it. -/
structure RowsW (W0 : World) (F : Nat → Prop) (b : Nat) (tv rv : Value) (s : De.St) (w : World) : Prop where
  rown : ∀ k, rv.ownBlock = some k → F k ∧ k ≠ b
  deep : s.op.length ≤ 16
  room : 0 < s.op.length → ∃ a n c, rv = .slice a n c ∧ s.op.length < n
  tags : Sup (Im W0 F b rv) w (fun W => Ints W tv (tagsOf s) ∧ Whole0 tv)
  rows : ∃ n xs, n ≤ 20 ∧ w.ownsRow 0 37 1 rv n xs ∧ ∀ k, k ≤ s.op.length → LevS (Im W0 F b rv) w (xs.getD k (.slice none 0 0)) (levOf s k)
/-- The document's writer, in block b. -/
structure RefW (W0 : World) (F : Nat → Prop) (b : Nat) (s : De.St) (w : World) : Prop where
  base : W0.grownBy w none
  own : ∀ k, F k → W0.heap.size ≤ k ∧ k < w.heap.size
  mem : F b
  body : ∃ tv rv, w.heap[b]? = some (.cells #[tv, rv, .int .i64 (s.e : Nat)] 63 (0, 0)) ∧ (s.e = 0 → RowsW W0 F b tv rv s w)
/-- F, and what has come since. -/
def Ext (F : Nat → Prop) (w w' : World) (k : Nat) : Prop := F k ∨ (w.heap.size ≤ k ∧ k < w'.heap.size)
/-- What a call has turned of b's blocks. -/
def Mut (b : Nat) (rv : Value) (k : Nat) : Prop := k = b ∨ rv.ownBlock = some k
section
variable {W0 w w' : World} {F : Nat → Prop} {b : Nat} {tv rv rv' : Value} {s s' : De.St}
theorem mut_own (hm : F b) (hr : ∀ k, rv.ownBlock = some k → F k ∧ k ≠ b) : ∀ k, Mut b rv k → F k := fun k hk => by
  rcases hk with rfl | hk
  · exact hm
  · exact (hr k hk).1
/-- What lies in neither stays, whatever b's blocks are turned to, also where the rows have come to lie elsewhere. -/
theorem im_keep {P : World → Prop} (hb : W0.grownBy w none) (hF : ∀ k, F k → W0.heap.size ≤ k ∧ k < w.heap.size) (h : Sup (Im W0 F b rv) w P) (hu : Upto (Mut b rv) w w')
    (hr : ∀ k, k < w.heap.size → rv'.ownBlock = some k → rv.ownBlock = some k) : Sup (Im W0 (Ext F w w') b rv') w' P := by
  have h1 : Sup (Im W0 F b rv) w' P := h.upto hu (fun k hk hm => by
    rcases hm with rfl | hm
    · exact hk.2.1 rfl
    · exact hk.2.2 hm)
  refine h1.mono (fun k hk => ?_) (fun k hk => ?_)
  · refine ⟨hk.1.imp (fun h => .inl h) id, hk.2.1, fun e => hk.2.2 (hr k (h.lt k hk) e)⟩
  · rcases hk.1 with h2 | h2
    · rcases h2 with h2 | h2
      · exact Nat.lt_of_lt_of_le (hF k h2).2 hu.size
      · exact h2.2
    · exact Nat.lt_of_lt_of_le h2 (Nat.le_trans hb.size hu.size)
theorem LevS.keep {x : Value} {L : List (List Nat)} (hb : W0.grownBy w none) (hF : ∀ k, F k → W0.heap.size ≤ k ∧ k < w.heap.size) (h : LevS (Im W0 F b rv) w x L) (hu : Upto (Mut b rv) w w')
    (hr : ∀ k, k < w.heap.size → rv'.ownBlock = some k → rv.ownBlock = some k) : LevS (Im W0 (Ext F w w') b rv') w' x L := by
  obtain ⟨ys, h⟩ := h
  exact ⟨ys, im_keep hb hF h hu hr⟩
theorem ext_own (hb : W0.grownBy w none) (hF : ∀ k, F k → W0.heap.size ≤ k ∧ k < w.heap.size) (hs : w.heap.size ≤ w'.heap.size) : ∀ k, Ext F w w' k → W0.heap.size ≤ k ∧ k < w'.heap.size := fun k hk => by
  have := hb.size
  rcases hk with hk | hk
  · have := hF k hk; omega
  · omega
theorem ext_im_lt (hb : W0.grownBy w none) (hF : ∀ k, F k → W0.heap.size ≤ k ∧ k < w.heap.size) (hs : w.heap.size ≤ w'.heap.size) : ∀ k, Im W0 (Ext F w w') b rv k → k < w'.heap.size := fun k hk => by
  have := hb.size
  rcases hk.1 with h | h
  · exact (ext_own hb hF hs k h).2
  · omega
/-- A turn of b's blocks alone. -/
theorem RefW.turn (h : RefW W0 F b s w) (hr : ∀ k, rv.ownBlock = some k → F k ∧ k ≠ b) (hu : Upto (Mut b rv) w w') : W0.grownBy w' none ∧ Upto F w w' :=
  ⟨hu.base h.base (fun k hk => (h.own k (mut_own h.mem hr k hk)).1), hu.mono (fun k _ hk => mut_own h.mem hr k hk)⟩
theorem Ext.refl_iff (F : Nat → Prop) (w : World) (k : Nat) : Ext F w w k ↔ F k := ⟨fun h => by
  rcases h with h | h
  · exact h
  · omega, fun h => .inl h⟩
theorem Ext.trans {a b c : World} (h1 : a.heap.size ≤ b.heap.size) (h2 : b.heap.size ≤ c.heap.size) (k : Nat) : Ext (Ext F a b) b c k ↔ Ext F a c k := by
  unfold Ext
  constructor
  · rintro ((h | h) | h)
    · exact .inl h
    · exact .inr (by omega)
    · exact .inr (by omega)
  · rintro (h | h)
    · exact .inl (.inl h)
    · by_cases hk : k < b.heap.size
      · exact .inl (.inr (by omega))
      · exact .inr (by omega)
theorem Turn.ext (h : Upto F w w') : Turn F (Ext F w w') w w' := ⟨h, fun k hk hf => by
  rcases hf with hf | hf
  · exact hf
  · omega⟩
theorem RefW.iff (h : RefW W0 F b s w) {G : Nat → Prop} (hG : ∀ k, G k ↔ F k) : RefW W0 G b s w := by
  have e : G = F := funext fun k => propext (hG k)
  rw [e]; exact h
/-- Another thing's call leaves it. -/
theorem RefW.other {G G' : Nat → Prop} (h : RefW W0 F b s w) (hG : ∀ k, G k → W0.heap.size ≤ k) (ht : Turn G G' w w') (ha : Apart G F) : RefW W0 F b s w' := by
  have hag : ∀ k, k < w.heap.size → ¬ G k → w'.heap[k]? = w.heap[k]? := ht.upto.block
  obtain ⟨tv, rv, h1, h2⟩ := h.body
  refine ⟨ht.upto.base h.base hG, fun k hk => ⟨(h.own k hk).1, Nat.lt_of_lt_of_le (h.own k hk).2 ht.upto.size⟩, h.mem, tv, rv, ?_, fun he => ?_⟩
  · rw [hag b (h.own b h.mem).2 (fun hg => ha b hg h.mem)]; exact h1
  · have hR := h2 he
    have hi : ∀ k, Im W0 F b rv k → ¬ G k := fun k hk hg => by
      rcases hk.1 with hf | hl
      · exact ha k hg hf
      · have := hG k hg; omega
    refine ⟨hR.rown, hR.deep, hR.room, hR.tags.upto ht.upto hi, ?_⟩
    obtain ⟨n, xs, hn, ho, hl⟩ := hR.rows
    refine ⟨n, xs, hn, ?_, fun k hk => (hl k hk).upto ht.upto hi⟩
    refine ⟨ho.1, ?_⟩
    rcases ho.2 with h3 | ⟨g, cap, cur, rfl, h4, h5, h6⟩
    · exact .inl h3
    · exact .inr ⟨g, cap, cur, rfl, h4, (hag g (blk_lt h5) (fun hg => ha g hg (hR.rown g rfl).1)).trans h5, h6⟩
end
end Go.Proofs.YtagdcjpjbjboeaaGreatDoor
namespace Go.Proofs.YtagdcjpjbjboeaaGreatDoor
open Go.RowKit
set_option linter.unusedVariables false
theorem getD_nil (xs : List Value) (k : Nat) : (xs ++ [Value.slice none 0 0]).getD k (.slice none 0 0) = xs.getD k (.slice none 0 0) := by
  simp only [List.getD_eq_getElem?_getD]
  rcases Nat.lt_trichotomy k xs.length with h | h | h
  · rw [List.getElem?_append_left h]
  · subst h; simp
  · rw [List.getElem?_eq_none (by simp; omega), List.getElem?_eq_none (by omega)]
theorem own_setCell {w : World} {base : Nat} {e : TypeId} {sz : Nat} {v : Value} {n : Nat} {xs : List Value} (h : w.ownsRow base e sz v n xs) {b i : Nat} {u : Value} (hb : v.ownBlock ≠ some b) : (w.setCell ⟨b, i, none⟩ u).ownsRow base e sz v n xs := by
  refine ⟨h.1, ?_⟩
  rcases h.2 with h1 | ⟨g, cap, cur, rfl, h2, h3, h4⟩
  · exact .inl h1
  · refine .inr ⟨g, cap, cur, rfl, h2, ?_, h4⟩
    rw [Below.heap_setCell _ _ _ _ (fun e => hb (by show some g = some b; rw [e]))]
    exact h3
section
variable {W0 w w' : World} {F : Nat → Prop} {b : Nat} {tv rv rv' : Value} {s : De.St}
/-- The rows, turned to other ones with more room. -/
theorem rows_grow {n : Nat} {xs : List Value} {E : Int} {w2 : World} {A : Obj} (hb : W0.grownBy w none) (hF : ∀ k, F k → W0.heap.size ≤ k ∧ k < w.heap.size) (hm : F b)
    (hc : w.heap[b]? = some (.cells #[tv, rv, .int .i64 E] 63 (0, 0))) (hR : RowsW W0 F b tv rv s w) (hn : n < 20) (hro : 0 < s.op.length → s.op.length < n)
    (hl : ∀ k, k ≤ s.op.length → LevS (Im W0 F b rv) w (xs.getD k (.slice none 0 0)) (levOf s k))
    (ho : w2.ownsRow 0 37 1 rv' (n + 1) (xs ++ [.slice none 0 0])) (hg : (w.alloc A).grownBy w2 rv.ownBlock) (hv : rv'.ownBlock = rv.ownBlock ∨ rv'.ownBlock = some (w.alloc A).heap.size) :
    Upto (Mut b rv) w (w2.setCell ⟨b, 1, none⟩ rv') ∧ (w2.setCell ⟨b, 1, none⟩ rv').heap[b]? = some (.cells #[tv, rv', .int .i64 E] 63 (0, 0)) ∧
      RowsW W0 (Ext F w (w2.setCell ⟨b, 1, none⟩ rv')) b tv rv' s (w2.setCell ⟨b, 1, none⟩ rv') := by
  have hal : (w.alloc A).heap.size = w.heap.size + 1 := by rw [alloc_size]
  have hbl : b < w.heap.size := (hF b hm).2
  have hbr : rv.ownBlock ≠ some b := fun e => (hR.rown b e).2 rfl
  have hs2 : w.heap.size + 1 ≤ w2.heap.size := by rw [← hal]; exact hg.size
  have hsz : (w2.setCell ⟨b, 1, none⟩ rv').heap.size = w2.heap.size := setCell_size _ _ _
  have hr : ∀ k, k < w.heap.size → rv'.ownBlock = some k → rv.ownBlock = some k := fun k hk e => by
    rcases hv with h | h
    · rw [← h]; exact e
    · rw [h] at e; have := Option.some.inj e; omega
  have hblk : ∀ k, k < w.heap.size → rv.ownBlock ≠ some k → w2.heap[k]? = w.heap[k]? := fun k hk hne => by
    rw [hg.block k (by omega) (fun e => hne e.symm)]
    show (w.heap.push A)[k]? = _
    rw [Array.getElem?_push_lt hk, Array.getElem?_eq_getElem hk]
  have hu : Upto (Mut b rv) w (w2.setCell ⟨b, 1, none⟩ rv') := ⟨hg.os, hg.tape, hg.output, by omega, fun k hk hmu => by
    rw [Below.heap_setCell _ _ _ _ (fun e => hmu (.inl e))]
    exact hblk k hk (fun e => hmu (.inr e))⟩
  have hbv : rv'.ownBlock ≠ some b := fun e => hbr (hr b hbl e)
  refine ⟨hu, ?_, ?_⟩
  · have := setCell_heap (i := 1) ((hblk b hbl hbr).trans hc) rv'
    simpa using this
  · have ho' := own_setCell (i := 1) (u := rv') ho hbv
    refine ⟨fun k hk => ⟨?_, fun e => hbv (e ▸ hk)⟩, hR.deep, (fun h0 => by
      obtain ⟨a, g, c, h, _⟩ := ownsRow_form ho'
      exact ⟨a, n + 1, c, h, by have := hro h0; omega⟩), im_keep hb hF hR.tags hu hr, n + 1, _, hn, ho', fun k hk => ?_⟩
    · rcases hv with h | h
      · exact .inl (hR.rown k (by rw [← h]; exact hk)).1
      · rw [h] at hk
        have e := Option.some.inj hk
        rcases ho'.2 with ⟨h1, _⟩ | ⟨g, cap, cur, h1, _, h2, _⟩
        · rw [h1] at h; exact absurd h (by simp [Value.ownBlock])
        · have hlt := blk_lt h2
          rw [h1] at h
          have e2 : g = (w.alloc A).heap.size := Option.some.inj h
          exact .inr ⟨by omega, by omega⟩
    · rw [getD_nil]
      exact (hl k hk).keep hb hF hu hr
theorem own_put {w : World} {base : Nat} {e : TypeId} {g n c : Nat} {xs : List Value} (h : w.ownsRow base e 1 (.slice (some ⟨g, 0, none⟩) n c) n xs) {K : Nat} (hK : K < n) (u : Value) :
    (w.setCell ⟨g, K, none⟩ u).ownsRow base e 1 (.slice (some ⟨g, 0, none⟩) n c) n (xs.set K u) := by
  refine ⟨by simpa using h.1, ?_⟩
  rcases h.2 with ⟨h1, _⟩ | ⟨g', cap, cur, h1, h2, h3, h4, h5, h6, h7⟩
  · exact absurd h1 (by simp)
  · simp only [Value.slice.injEq, Option.some.injEq, Addr.mk.injEq, and_true, true_and] at h1
    obtain ⟨rfl, rfl⟩ := h1
    refine .inr ⟨g, c, cur.setIfInBounds K u, rfl, h2, setCell_heap h3 u, h4, h5, by simpa using h6, ?_⟩
    rw [Array.toList_setIfInBounds, List.take_set, h7]
theorem tagsOf_add (s : De.St) (l : List Nat) : tagsOf (De.add s l) = tagsOf s := by
  obtain ⟨e, op, dn⟩ := s
  match op with
  | [] => rfl
  | (t, r) :: q => rfl
theorem opLen_add (s : De.St) (l : List Nat) : (De.add s l).op.length = s.op.length := by
  obtain ⟨e, op, dn⟩ := s
  match op with
  | [] => rfl
  | (t, r) :: q => rfl
theorem e_add (s : De.St) (l : List Nat) : (De.add s l).e = s.e := by
  obtain ⟨e, op, dn⟩ := s
  match op with
  | [] => rfl
  | (t, r) :: q => rfl
theorem levOf_add (s : De.St) (l : List Nat) (k : Nat) (hk : k ≤ s.op.length) : levOf (De.add s l) k = if k = s.op.length then levOf s k ++ [l] else levOf s k := by
  obtain ⟨e, op, dn⟩ := s
  match op with
  | [] =>
    obtain rfl : k = 0 := by simpa using hk
    rfl
  | (t, r) :: q =>
    simp only [List.length_cons] at hk
    show levOf ⟨e, (t, r ++ [l]) :: q, dn⟩ k = _
    unfold levOf
    simp only [List.reverse_cons, List.length_cons]
    by_cases h0 : k = 0
    · subst h0; simp
    · rw [if_neg h0, if_neg h0]
      by_cases hq : k = q.length + 1
      · subst hq
        simp [List.getD_eq_getElem?_getD]
      · rw [if_neg hq]
        have : k - 1 < q.reverse.length := by simp; omega
        simp only [List.getD_eq_getElem?_getD]
        rw [List.getElem?_append_left this, List.getElem?_append_left this]
/-- An element, put behind the innermost row's. -/
theorem rows_put {g K n c : Nat} {xs ys : List Value} {x v1 : Value} {l : List Nat} {w1 : World} {E : Int} (hb : W0.grownBy w none) (hF : ∀ k, F k → W0.heap.size ≤ k ∧ k < w.heap.size)
    (hc : w.heap[b]? = some (.cells #[tv, .slice (some ⟨g, 0, none⟩) n c, .int .i64 E] 63 (0, 0))) (hR : RowsW W0 F b tv (.slice (some ⟨g, 0, none⟩) n c) s w) (hK : K = s.op.length) (hKn : K < n) (hn : n ≤ 20)
    (ho : w.ownsRow 0 37 1 (.slice (some ⟨g, 0, none⟩) n c) n xs) (hl : ∀ k, k ≤ s.op.length → LevS (Im W0 F b (.slice (some ⟨g, 0, none⟩) n c)) w (xs.getD k (.slice none 0 0)) (levOf s k))
    (hy : Sup (Im W0 F b (.slice (some ⟨g, 0, none⟩) n c)) w (Lev (xs.getD K (.slice none 0 0)) ys (levOf s K))) (hx : Sup (Im W0 F b (.slice (some ⟨g, 0, none⟩) n c)) w (fun W => Bytes W x l ∧ Whole0 x))
    (h1 : FrV w w1 v1 (ys ++ [x])) :
    Upto (Mut b (.slice (some ⟨g, 0, none⟩) n c)) w (w1.setCell ⟨g, K, none⟩ v1) ∧ (w1.setCell ⟨g, K, none⟩ v1).heap[b]? = some (.cells #[tv, .slice (some ⟨g, 0, none⟩) n c, .int .i64 E] 63 (0, 0)) ∧
      RowsW W0 (Ext F w (w1.setCell ⟨g, K, none⟩ v1)) b tv (.slice (some ⟨g, 0, none⟩) n c) (De.add s l) (w1.setCell ⟨g, K, none⟩ v1) := by
  have hgb : g ≠ b := (hR.rown g rfl).2
  have hFg := (hR.rown g rfl).1
  have hgl := (hF g hFg).2
  have hbl : b < w.heap.size := blk_lt hc
  have hs1 := h1.grown.size
  have hsz : (w1.setCell ⟨g, K, none⟩ v1).heap.size = w1.heap.size := setCell_size _ _ _
  have hblk : ∀ k, k < w.heap.size → k ≠ g → (w1.setCell ⟨g, K, none⟩ v1).heap[k]? = w.heap[k]? := fun k hk hne => by
    rw [Below.heap_setCell _ _ _ _ hne]
    exact h1.grown.block k hk (by simp)
  have hu : Upto (Mut b (.slice (some ⟨g, 0, none⟩) n c)) w (w1.setCell ⟨g, K, none⟩ v1) := ⟨h1.grown.os, h1.grown.tape, h1.grown.output, by omega, fun k hk hmu => hblk k hk (fun e => hmu (.inr (by rw [e]; rfl)))⟩
  have hr : ∀ k, k < w.heap.size → (Value.slice (some ⟨g, 0, none⟩) n c).ownBlock = some k → (Value.slice (some ⟨g, 0, none⟩) n c).ownBlock = some k := fun _ _ h => h
  have hkx : xs.length = n := by simpa using ho.1
  have ho1 : w1.ownsRow 0 37 1 (.slice (some ⟨g, 0, none⟩) n c) n xs := by
    refine ⟨ho.1, ?_⟩
    rcases ho.2 with h | ⟨g', cap, cur, h2, h3, h4, h5⟩
    · exact .inl h
    · simp only [Value.slice.injEq, Option.some.injEq, Addr.mk.injEq, and_true, true_and] at h2
      obtain ⟨rfl, rfl⟩ := h2
      exact .inr ⟨g, c, cur, rfl, h3, (h1.grown.block g hgl (by simp)).trans h4, h5⟩
  refine ⟨hu, (hblk b hbl (Ne.symm hgb)).trans hc, ⟨fun k hk => ?_, by rw [opLen_add]; exact hR.deep, (fun _ => ⟨_, n, c, rfl, by rw [opLen_add]; omega⟩), by rw [tagsOf_add]; exact im_keep hb hF hR.tags hu hr, n, xs.set K v1, hn, own_put ho1 hKn v1, fun k hk => ?_⟩⟩
  · exact ⟨.inl (hR.rown k hk).1, (hR.rown k hk).2⟩
  · rw [opLen_add] at hk
    rw [levOf_add s l k hk, List.getD_eq_getElem?_getD, List.getElem?_set]
    by_cases hkK : k = K
    · rw [hkK, if_pos hK, if_pos rfl, if_pos (by omega)]
      have hlt : ∀ k, Im W0 (Ext F w (w1.setCell ⟨g, K, none⟩ v1)) b (.slice (some ⟨g, 0, none⟩) n c) k → k < (w1.setCell ⟨g, K, none⟩ v1).heap.size := ext_im_lt hb hF hu.size
      have s1 := im_keep hb hF hy hu hr
      have s2 := im_keep hb hF hx hu hr
      have hV : Vals (w1.setCell ⟨g, K, none⟩ v1) v1 (ys ++ [x]) := Vals.own (own_setCell h1.own (fun e => by
        rcases h1.own.2 with ⟨h, _⟩ | ⟨g', _, _, h, h2, _⟩
        · rw [h] at e; exact absurd e (by simp [Value.ownBlock])
        · rw [h] at e; have := Option.some.inj e; simp only at this; omega))
      have s3 := vals_sup hV hlt (fun hp j hj => by
        obtain ⟨a, n', c', e, rfl⟩ := hj
        rcases h1.own.2 with ⟨h, _⟩ | ⟨g', _, _, h, h2, h3, _⟩
        · rw [h] at e; exact absurd e (by simp)
        · rw [h] at e
          simp only [Value.slice.injEq, Option.some.injEq] at e
          obtain ⟨rfl, _⟩ := e
          have := blk_lt h3
          refine ⟨.inl (.inr ⟨h2, (by omega : g' < (w1.setCell ⟨g, K, none⟩ v1).heap.size)⟩), by show g' ≠ b; omega, fun e => by have := Option.some.inj e; simp only at this; omega⟩)
      exact ⟨_, ((s1.and s2).and s3).map fun W hW => ⟨hW.2, hW.1.1.2.1.append (show Each W [x] [l] from ⟨⟨hW.1.2.1, hW.1.2.2⟩, trivial⟩), h1.whole⟩⟩
    · rw [if_neg (fun e => hkK e.symm : ¬ K = k), if_neg (fun e => hkK (e.trans hK.symm) : ¬ k = s.op.length), ← List.getD_eq_getElem?_getD]
      exact (hl k hk).keep hb hF hu hr
end
end Go.Proofs.YtagdcjpjbjboeaaGreatDoor
namespace Go.Proofs.YtagdcjpjbjboeaaGreatDoor
namespace De
theorem rdLen_err {l : List Nat} {k : Nat} (h : Tl.rdLen l = .error k) : k ≠ 0 := by
  intro h0
  subst h0
  unfold Tl.rdLen at h
  repeat' split at h
  all_goals first
    | exact absurd h (by simp)
    | exact absurd (Except.error.inj h) (by decide)
theorem first_err {l : List Nat} {k : Nat} (h : Tl.first l = .error k) : k ≠ 0 := by
  intro h0
  subst h0
  match l, h with
  | [], h => exact absurd (Except.error.inj h) (by decide)
  | t :: r, h =>
    rw [Tl.first] at h
    split at h
    · exact absurd (Except.error.inj h) (by decide)
    · split at h
      · rename_i e he
        exact rdLen_err he (Except.error.inj h)
      · split at h
        · exact absurd (Except.error.inj h) (by decide)
        · exact absurd h (by simp)
theorem loop_err {rec : Nat → List Nat → Except Nat Nat} {one set : Bool} (hr : ∀ t b k, rec t b = .error k → k ≠ 0) : ∀ (f : Nat) (b a : List Nat) (d k : Nat), Tl.loop rec one set f b a d = .error k → k ≠ 0
  | 0, _, _, _, _, h => by rw [Tl.loop] at h; exact absurd h (by simp)
  | f + 1, b, a, d, k, h => by
    rw [Tl.loop] at h
    split at h
    · exact absurd h (by simp)
    · split at h
      · rename_i e he
        rw [← Except.error.inj h]
        exact first_err he
      · split at h
        · rw [← Except.error.inj h]; decide
        · split at h
          · rename_i e he
            rw [← Except.error.inj h]
            exact hr _ _ _ he
          · split at h
            · rw [← Except.error.inj h]; decide
            · exact loop_err hr f _ _ _ _ h
theorem within_err : ∀ (L t : Nat) (b : List Nat) (k : Nat), Tl.within L t b = .error k → k ≠ 0
  | 0, t, b, k, h => by rw [← Except.error.inj h]; decide
  | L + 1, t, b, k, h => by
    rw [Tl.within] at h
    split at h
    · split at h
      · rename_i e he
        rw [← Except.error.inj h]
        exact loop_err (within_err L) _ _ _ _ _ he
      · exact absurd h (by simp)
    · exact absurd h (by simp)
theorem loop_le {rec : Nat → List Nat → Except Nat Nat} {one set : Bool} {K : Nat} (hr : ∀ t b m, rec t b = .ok m → m ≤ K) : ∀ (f : Nat) (b a : List Nat) (d m : Nat), d ≤ K → Tl.loop rec one set f b a d = .ok m → m ≤ K
  | 0, b, a, d, m, hd, h => by rw [Tl.loop] at h; cases h; exact hd
  | f + 1, b, a, d, m, hd, h => by
    rw [Tl.loop] at h
    split at h
    · cases h; exact hd
    · split at h
      · cases h
      · split at h
        · cases h
        · split at h
          · cases h
          · rename_i hrec
            split at h
            · cases h
            · exact loop_le hr f _ _ _ m (Nat.max_le.2 ⟨hd, hr _ _ _ hrec⟩) h
theorem within_le : ∀ (left t : Nat) (b : List Nat) (m : Nat), Tl.within left t b = .ok m → m ≤ left
  | 0, t, b, m, h => by cases h
  | L + 1, t, b, m, h => by
    rw [Tl.within] at h
    split at h
    · split at h
      · cases h
      · rename_i hlo
        have := loop_le (within_le L) _ _ _ _ _ (Nat.zero_le _) hlo
        cases h
        omega
    · cases h; omega
end De
end Go.Proofs.YtagdcjpjbjboeaaGreatDoor
namespace Go.Proofs.YtagdcjpjbjboeaaGreatDoor
namespace De
/-- Bytes that are the rest of what was looked through, of elements that have at most k levels each. -/
def Seen (k : Nat) (b : List Nat) : Prop := (∀ x ∈ b, x < 256) ∧ ∃ one set f a d m, b.length ≤ f ∧ Tl.loop (Tl.within k) one set f b a d = .ok m
/-- The first of them. -/
theorem seen_first {k : Nat} {b : List Nat} (h : Seen k b) (hb : b ≠ []) : ∃ t i n, Tl.first b = .ok (t, i, n) ∧ 2 ≤ i ∧ i + n ≤ b.length ∧ Tl.known (t : Nat) = true ∧ n ≤ 65530 ∧ Seen k (b.drop (i + n)) ∧
    b.take (i + n) = Tl.elem t ((b.drop i).take n) ∧ (Tl.made (t : Nat) = true → 1 ≤ k ∧ Seen (k - 1) ((b.drop i).take n)) := by
  obtain ⟨h8, one, set, f, a, d, m, hf, hl⟩ := h
  cases f with
  | zero => exact absurd (List.length_eq_zero_iff.1 (by omega)) hb
  | succ f =>
    rw [Tl.loop, if_neg hb] at hl
    cases hq : Tl.first b with
    | error e => rw [hq] at hl; exact absurd hl (by simp)
    | ok p =>
      obtain ⟨t, i, n⟩ := p
      rw [hq] at hl
      obtain ⟨hk, hn, hin, hlen, he⟩ := first_inv h8 hq
      have h2 := Tl.first_two hq
      cases one with
      | true => exact absurd hl (by simp)
      | false =>
        have hl : (match Tl.within k t ((b.drop i).take n) with
          | .error e => (Except.error e : Except Nat Nat)
          | .ok m => if set && decide (Tl.cmpB (b.take (i + n)) a < 0) then .error 7 else Tl.loop (Tl.within k) false set f (b.drop (i + n)) (b.take (i + n)) (max d m)) = .ok m := hl
        cases hw : Tl.within k t ((b.drop i).take n) with
        | error e => rw [hw] at hl; exact absurd hl (by simp)
        | ok m2 =>
          rw [hw] at hl
          have hl : (if set && decide (Tl.cmpB (b.take (i + n)) a < 0) then .error 7 else Tl.loop (Tl.within k) false set f (b.drop (i + n)) (b.take (i + n)) (max d m2)) = (Except.ok m : Except Nat Nat) := hl
          by_cases hs : (set && decide (Tl.cmpB (b.take (i + n)) a < 0)) = true
          · rw [if_pos hs] at hl; exact absurd hl (by simp)
          rw [if_neg hs] at hl
          refine ⟨t, i, n, rfl, h2, hin, hk, hn, ⟨fun x hx => h8 x (List.mem_of_mem_drop hx), _, _, f, _, _, m, ?_, hl⟩, he, fun hm => ?_⟩
          · rw [List.length_drop]; omega
          · cases k with
            | zero => rw [Tl.within] at hw; exact absurd hw (by simp)
            | succ k =>
              rw [within_whole, if_pos hm] at hw
              cases hq2 : whole k (decide (t = 49)) ((b.drop i).take n) with
              | error e => rw [hq2] at hw; exact absurd hw (by simp)
              | ok m3 => exact ⟨by omega, fun x hx => h8 x (List.mem_of_mem_drop (List.mem_of_mem_take hx)), _, _, _, _, _, m3, Nat.le_refl _, hq2⟩
/-- They are elements up to their end. -/
theorem seen_all : ∀ (f k : Nat) (b : List Nat), Seen k b → b.length ≤ f → ∃ ps, all f b = .ok ps
  | 0, _, _, _, _ => ⟨[], rfl⟩
  | f + 1, k, b, h, hf => by
    by_cases hb : b = []
    · exact ⟨[], by rw [all, if_pos hb]⟩
    · obtain ⟨t, i, n, hq, h2, hin, _, _, hr, _⟩ := seen_first h hb
      obtain ⟨ps, hp⟩ := seen_all f k _ hr (by rw [List.length_drop]; omega)
      exact ⟨(t, (b.drop i).take n) :: ps, by rw [all, if_neg hb, hq]; show (match all f _ with | .error e => _ | .ok r => _) = _; rw [hp]⟩
/-- More room changes nothing. -/
theorem all_room : ∀ (f g k : Nat) (b : List Nat), Seen k b → b.length ≤ f → b.length ≤ g → all f b = all g b
  | f, g, k, b, h, hf, hg => by
    by_cases hb : b = []
    · subst hb; cases f <;> cases g <;> simp [all]
    · obtain ⟨t, i, n, hq, h2, hin, _, _, hr, _⟩ := seen_first h hb
      have hpos : 0 < b.length := List.length_pos_iff.2 hb
      obtain ⟨f, rfl⟩ : ∃ x, f = x + 1 := ⟨f - 1, by omega⟩
      obtain ⟨g, rfl⟩ : ∃ x, g = x + 1 := ⟨g - 1, by omega⟩
      rw [all, if_neg hb, all, if_neg hb, hq]
      show (match all f _ with | .error e => _ | .ok r => _) = (match all g _ with | .error e => _ | .ok r => _)
      rw [all_room f g k _ hr (by rw [List.length_drop]; omega) (by rw [List.length_drop]; omega)]
  termination_by f => f
/-- The elements of bytes that were looked through. -/
def elems (b : List Nat) : List (Nat × List Nat) := match all b.length b with
  | .error _ => []
  | .ok r => r
theorem elems_all {k : Nat} {b : List Nat} (h : Seen k b) : all b.length b = .ok (elems b) := by
  obtain ⟨ps, hp⟩ := seen_all b.length k b h (Nat.le_refl _)
  unfold elems; rw [hp]
theorem elems_cons {k : Nat} {b : List Nat} (h : Seen k b) (hb : b ≠ []) {t i n : Nat} (hq : Tl.first b = .ok (t, i, n)) : elems b = (t, (b.drop i).take n) :: elems (b.drop (i + n)) := by
  obtain ⟨t2, i2, n2, hq2, h2, hin, _, _, hr, _⟩ := seen_first h hb
  rw [hq] at hq2
  obtain ⟨rfl, h3⟩ := Prod.mk.inj (Except.ok.inj hq2)
  obtain ⟨rfl, rfl⟩ := Prod.mk.inj h3
  have hpos : 0 < b.length := List.length_pos_iff.2 hb
  have e1 := elems_all h
  obtain ⟨f, hf⟩ : ∃ x, b.length = x + 1 := ⟨b.length - 1, by omega⟩
  rw [hf, all, if_neg hb, hq] at e1
  have e1 : (match all f (b.drop (i + n)) with | .error e => (Except.error e : Except Nat (List (Nat × List Nat))) | .ok r => .ok ((t, (b.drop i).take n) :: r)) = .ok (elems b) := e1
  rw [all_room f (b.drop (i + n)).length k _ hr (by rw [List.length_drop]; omega) (Nat.le_refl _), elems_all hr] at e1
  exact (Except.ok.inj e1).symm
theorem elems_none {k : Nat} {b : List Nat} (h : Seen k b) : elems b = [] ↔ b = [] := by
  refine ⟨fun e => ?_, fun e => by rw [e]; rfl⟩
  by_cases hb : b = []
  · exact hb
  · obtain ⟨t, i, n, hq, _⟩ := seen_first h hb
    rw [elems_cons h hb hq] at e
    exact absurd e (by simp)
/-- What was looked through and found right. -/
theorem seen_levels {b : List Nat} {m : Nat} (h8 : ∀ x ∈ b, x < 256) (h : Tl.levels b = .ok m) : Seen 16 b := by
  rw [← check_levels b h8] at h
  unfold check at h
  by_cases h1 : 65536 < b.length
  · rw [if_pos h1] at h; exact absurd h (by simp)
  rw [if_neg h1] at h
  cases hf : Tl.first b with
  | error e => rw [hf] at h; exact absurd h (by simp)
  | ok p =>
    obtain ⟨t, i, n⟩ := p
    rw [hf] at h
    have h : (if i + n < b.length then (Except.error 4 : Except Nat Nat) else whole 16 false b) = .ok m := h
    by_cases h2 : i + n < b.length
    · rw [if_pos h2] at h; exact absurd h (by simp)
    rw [if_neg h2] at h
    exact ⟨h8, _, _, _, _, _, m, Nat.le_refl _, h⟩
/-- What a reader holds while nothing has failed. -/
def Sane (s : Rd) : Prop := s.e = 0 → ∃ k, k + s.left.length ≤ 16 ∧ Seen k s.top ∧ ∀ i x, s.left[i]? = some x → Seen (k + i + 1) x
theorem sane_start {b : List Nat} (h8 : ∀ x ∈ b, x < 256) : Sane (start b) := by
  intro h
  unfold start at h ⊢
  cases hl : Tl.levels b with
  | error e =>
    rw [hl] at h
    have hz : e ≠ 0 := by
      unfold Tl.levels at hl
      by_cases h1 : 65536 < b.length
      · rw [if_pos h1] at hl; have := Except.error.inj hl; omega
      rw [if_neg h1] at hl
      cases hf : Tl.first b with
      | error e2 => rw [hf] at hl; obtain rfl := Except.error.inj hl; exact first_err hf
      | ok p =>
        obtain ⟨t, i, n⟩ := p
        rw [hf] at hl
        have hl : (if i + n < b.length then (Except.error 4 : Except Nat Nat) else Tl.within 16 t ((b.drop i).take n)) = .error e := hl
        by_cases h2 : i + n < b.length
        · rw [if_pos h2] at hl; have := Except.error.inj hl; omega
        · rw [if_neg h2] at hl; exact within_err _ _ _ _ hl
    exact absurd h hz
  | ok m => exact ⟨16, by simp, seen_levels h8 hl, by simp⟩
/-- The next element is taken. -/
theorem sane_took {s : Rd} (hs : Sane s) {t i n : Nat} (hb : s.top ≠ []) (hq : Tl.first s.top = .ok (t, i, n)) : Sane { s with top := s.top.drop (i + n) } := by
  intro he
  obtain ⟨k, h1, h2, h3⟩ := hs he
  obtain ⟨t2, i2, n2, hq2, _, _, _, _, hr, _⟩ := seen_first h2 hb
  rw [hq] at hq2
  obtain ⟨rfl, h4⟩ := Prod.mk.inj (Except.ok.inj hq2)
  obtain ⟨rfl, rfl⟩ := Prod.mk.inj h4
  exact ⟨k, h1, hr, h3⟩
/-- It is gone into. -/
theorem sane_into {s : Rd} (hs : Sane s) {t i n : Nat} (hb : s.top ≠ []) (hq : Tl.first s.top = .ok (t, i, n)) (hm : Tl.made (t : Nat) = true) : Sane { s with top := (s.top.drop i).take n, left := s.top.drop (i + n) :: s.left } := by
  intro he
  obtain ⟨k, h1, h2, h3⟩ := hs he
  obtain ⟨t2, i2, n2, hq2, _, _, _, _, hr, _, hmade⟩ := seen_first h2 hb
  rw [hq] at hq2
  obtain ⟨rfl, h4⟩ := Prod.mk.inj (Except.ok.inj hq2)
  obtain ⟨rfl, rfl⟩ := Prod.mk.inj h4
  obtain ⟨hk, hin⟩ := hmade hm
  refine ⟨k - 1, by simp only [List.length_cons]; omega, hin, fun j x hj => ?_⟩
  cases j with
  | zero =>
    simp only [List.getElem?_cons_zero, Option.some.injEq] at hj
    subst hj
    rw [show k - 1 + 0 + 1 = k by omega]; exact hr
  | succ j =>
    rw [List.getElem?_cons_succ] at hj
    rw [show k - 1 + (j + 1) + 1 = k + j + 1 by omega]; exact h3 j x hj
/-- It is left. -/
theorem sane_out {s : Rd} (hs : Sane s) {b : List Nat} {r : List (List Nat)} (hl : s.left = b :: r) : Sane { s with top := b, left := r } := by
  intro he
  obtain ⟨k, h1, h2, h3⟩ := hs he
  rw [hl] at h1 h3
  simp only [List.length_cons] at h1
  refine ⟨k + 1, by simp only; omega, h3 0 b rfl, fun j x hj => ?_⟩
  rw [show k + 1 + j + 1 = k + (j + 1) + 1 by omega]
  exact h3 (j + 1) x (by rw [List.getElem?_cons_succ]; exact hj)
/-- The first element of what a sane reader holds. -/
theorem sane_first {s : Rd} (hs : Sane s) (he : s.e = 0) (hb : s.top ≠ []) : ∃ t i n, Tl.first s.top = .ok (t, i, n) ∧ elems s.top = (t, (s.top.drop i).take n) :: elems (s.top.drop (i + n)) ∧ Tl.known (t : Nat) = true ∧ n ≤ 65530 ∧ s.top.take (i + n) = Tl.elem t ((s.top.drop i).take n) ∧
    (∀ x ∈ (s.top.drop i).take n, x < 256) ∧ ((s.top.drop i).take n).length = n ∧ (Tl.made (t : Nat) = true → all ((s.top.drop i).take n).length ((s.top.drop i).take n) = .ok (elems ((s.top.drop i).take n))) := by
  obtain ⟨k, h1, h2, h3⟩ := hs he
  obtain ⟨t, i, n, hq, hi, hin, hk, hn, hr, het, hmade⟩ := seen_first h2 hb
  refine ⟨t, i, n, hq, elems_cons h2 hb hq, hk, hn, het, fun x hx => h2.1 x (List.mem_of_mem_drop (List.mem_of_mem_take hx)), ?_, fun hm => elems_all (hmade hm).2⟩
  rw [List.length_take, List.length_drop]; omega
theorem sane_none {s : Rd} (hs : Sane s) (he : s.e = 0) : elems s.top = [] ↔ s.top = [] := by
  obtain ⟨k, _, h2, _⟩ := hs he
  exact elems_none h2
end De
end Go.Proofs.YtagdcjpjbjboeaaGreatDoor
namespace Go.Proofs.YtagdcjpjbjboeaaGreatDoor
open Go.RowKit
set_option linter.unusedVariables false
/-- What holds ahead of each round: the rows may have come to more. -/
structure AddR (W0 : World) (F : Nat → Prop) (b : Nat) (tv : Value) (s : De.St) (x : Value) (l : List Nat) (w : World) (ra : Option Addr) (n c : Nat) (xs : List Value) (W : World) : Prop where
  upto : Upto F w W
  cell : W.heap[b]? = some (.cells #[tv, .slice ra n c, .int .i64 0] 63 (0, 0))
  rows : RowsW W0 (Ext F w W) b tv (.slice ra n c) s W
  le : n ≤ 20
  own : W.ownsRow 0 37 1 (.slice ra n c) n xs
  levs : ∀ k, k ≤ s.op.length → LevS (Im W0 (Ext F w W) b (.slice ra n c)) W (xs.getD k (.slice none 0 0)) (levOf s k)
  elem : Sup (Im W0 (Ext F w W) b (.slice ra n c)) W (fun W => Bytes W x l ∧ Whole0 x)
theorem Sup.drewN {F : Nat → Prop} {w : World} {P : World → Prop} (h : Sup F w P) (n : Nat) : Sup F (w.drewN n) P := h.kept ⟨Nat.le_refl _, fun _ _ => rfl⟩
theorem Upto.drewN {F : Nat → Prop} {w w' : World} (h : Upto F w w') (n : Nat) : Upto F w (w'.drewN n) := ⟨h.os, h.tape, h.output, h.size, h.block⟩
theorem LevS.drewN {F : Nat → Prop} {w : World} {x : Value} {L : List (List Nat)} (h : LevS F w x L) (m : Nat) : LevS F (w.drewN m) x L := by
  obtain ⟨ys, h⟩ := h
  exact ⟨ys, h.drewN m⟩
theorem RowsW.drewN {W0 : World} {F : Nat → Prop} {b : Nat} {tv rv : Value} {s : De.St} {w : World} (h : RowsW W0 F b tv rv s w) (m : Nat) : RowsW W0 F b tv rv s (w.drewN m) := by
  obtain ⟨n, xs, h1, h2, h3⟩ := h.rows
  exact ⟨h.rown, h.deep, h.room, h.tags.drewN m, n, xs, h1, h2, fun k hk => (h3 k hk).drewN m⟩
section
variable {W0 : World} {F : Nat → Prop} {b : Nat} {tv : Value} {s : De.St} {x : Value} {l : List Nat} {w : World} {ra : Option Addr} {n c : Nat} {xs : List Value} {W : World}
theorem AddR.drewN (h : AddR W0 F b tv s x l w ra n c xs W) (m : Nat) : AddR W0 F b tv s x l w ra n c xs (W.drewN m) :=
  ⟨h.upto.drewN m, h.cell, h.rows.drewN m, h.le, h.own, fun k hk => (h.levs k hk).drewN m, h.elem.drewN m⟩
theorem AddR.mem (h : AddR W0 F b tv s x l w ra n c xs W) (hm : F b) : Ext F w W b := .inl hm
theorem AddR.at2 (h : AddR W0 F b tv s x l w ra n c xs W) (hF : ∀ k, F k → W0.heap.size ≤ k ∧ k < w.heap.size) (hm : F b) {A : Obj} {w2 : World} (hg : (W.alloc A).grownBy w2 (Value.slice ra n c).ownBlock) :
    w2.heap[b]? = some (.cells #[tv, .slice ra n c, .int .i64 0] 63 (0, 0)) := by
  have hbl : b < W.heap.size := Nat.lt_of_lt_of_le (hF b hm).2 h.upto.size
  rw [hg.block b (by rw [alloc_size]; omega) (fun e => (h.rows.rown b e.symm).2 rfl)]
  show (W.heap.push A)[b]? = _
  rw [Array.getElem?_push_lt hbl, ← h.cell, Array.getElem?_eq_getElem hbl]
/-- One row more. -/
theorem AddR.more (h : AddR W0 F b tv s x l w ra n c xs W) (hb : W0.grownBy w none) (hF : ∀ k, F k → W0.heap.size ≤ k ∧ k < w.heap.size) (hm : F b) (hn : n < 20) {A : Obj} {w2 : World} {a2 : Option Addr} {c2 : Nat}
    (ho : w2.ownsRow 0 37 1 (.slice a2 (n + 1) c2) (n + 1) (xs ++ [.slice none 0 0])) (hg : (W.alloc A).grownBy w2 (Value.slice ra n c).ownBlock)
    (hv : (Value.slice a2 (n + 1) c2).ownBlock = (Value.slice ra n c).ownBlock ∨ (Value.slice a2 (n + 1) c2).ownBlock = some (W.alloc A).heap.size) :
    AddR W0 F b tv s x l w a2 (n + 1) c2 (xs ++ [.slice none 0 0]) (w2.setCell ⟨b, 1, none⟩ (.slice a2 (n + 1) c2)) := by
  have hbW : W0.grownBy W none := h.upto.base hb (fun k hk => (hF k hk).1)
  have hFW := ext_own hb hF h.upto.size
  obtain ⟨k1, k2, k3⟩ := rows_grow hbW hFW (.inl hm) h.cell h.rows hn (fun h0 => by
    obtain ⟨a, n', c', e, hlt⟩ := h.rows.room h0
    simp only [Value.slice.injEq] at e
    omega) h.levs ho hg hv
  have hs3 := k1.size
  have eX : Ext (Ext F w W) W (w2.setCell ⟨b, 1, none⟩ (.slice a2 (n + 1) c2)) = Ext F w (w2.setCell ⟨b, 1, none⟩ (.slice a2 (n + 1) c2)) := funext fun k => propext (Ext.trans h.upto.size hs3 k)
  have hr : ∀ k, k < W.heap.size → (Value.slice a2 (n + 1) c2).ownBlock = some k → (Value.slice ra n c).ownBlock = some k := fun k hk e => by
    rcases hv with h' | h'
    · rw [← h']; exact e
    · rw [h'] at e; have := Option.some.inj e; rw [alloc_size] at this; omega
  rw [eX] at k3
  refine ⟨h.upto.trans k1 (fun k hk hmu => ?_), k2, k3, hn, own_setCell ho (fun e => ?_), fun k hk => ?_, ?_⟩
  · rcases hmu with rfl | hmu
    · exact hm
    · rcases (h.rows.rown k hmu).1 with h' | h'
      · exact h'
      · omega
  · exact (h.rows.rown b (hr b (Nat.lt_of_lt_of_le (hF b hm).2 h.upto.size) e)).2 rfl
  · rw [getD_nil]
    have := (h.levs k hk).keep hbW hFW k1 hr
    rwa [eX] at this
  · have := im_keep hbW hFW h.elem k1 hr
    rwa [eX] at this
end
/-- The element is put. -/
theorem AddR.put {W0 : World} {F : Nat → Prop} {b : Nat} {tv : Value} {s : De.St} {x : Value} {l : List Nat} {w : World} {g n c : Nat} {xs ys : List Value} {W w1 : World} {v1 : Value} {K : Nat} (h : AddR W0 F b tv s x l w (some ⟨g, 0, none⟩) n c xs W)
    (hb : W0.grownBy w none) (hF : ∀ k, F k → W0.heap.size ≤ k ∧ k < w.heap.size) (hm : F b) (he : s.e = 0) (hK : K = s.op.length) (hn : K < n) (hy : Sup (Im W0 (Ext F w W) b (.slice (some ⟨g, 0, none⟩) n c)) W (Lev (xs.getD K (.slice none 0 0)) ys (levOf s K)))
    (h1 : FrV W w1 v1 (ys ++ [x])) : Upto F w (w1.setCell ⟨g, K, none⟩ v1) ∧ RefW W0 (Ext F w (w1.setCell ⟨g, K, none⟩ v1)) b (De.add s l) (w1.setCell ⟨g, K, none⟩ v1) := by
  have hbW : W0.grownBy W none := h.upto.base hb (fun k hk => (hF k hk).1)
  have hFW := ext_own hb hF h.upto.size
  obtain ⟨k1, k2, k3⟩ := rows_put hbW hFW h.cell h.rows hK hn h.le h.own h.levs hy h.elem h1
  have hs3 := k1.size
  have eX : Ext (Ext F w W) W (w1.setCell ⟨g, K, none⟩ v1) = Ext F w (w1.setCell ⟨g, K, none⟩ v1) := funext fun k => propext (Ext.trans h.upto.size hs3 k)
  rw [eX] at k3
  have hu : Upto F w (w1.setCell ⟨g, K, none⟩ v1) := h.upto.trans k1 (fun k hk hmu => by
    rcases hmu with rfl | hmu
    · exact hm
    · rcases (h.rows.rown k hmu).1 with h' | h'
      · exact h'
      · omega)
  exact ⟨hu, hu.base hb (fun k hk => (hF k hk).1), ext_own hb hF hu.size, .inl hm, _, _, by rw [e_add, he]; exact k2, fun _ => k3⟩
end Go.Proofs.YtagdcjpjbjboeaaGreatDoor
namespace Go.Proofs.YtagdcjpjbjboeaaGreatDoor
open Go.RowKit
set_option linter.unusedVariables false
section
variable {W0 w w2 : World} {F : Nat → Prop} {b : Nat} {tv rv : Value} {s : De.St}
theorem RowsW.grow (h : RowsW W0 F b tv rv s w) (hb : W0.grownBy w none) (hF : ∀ k, F k → W0.heap.size ≤ k ∧ k < w.heap.size) (hg : w.grownBy w2 none) : RowsW W0 (Ext F w w2) b tv rv s w2 := by
  have hu : Upto (Mut b rv) w w2 := Upto.of_grown _ hg
  obtain ⟨n, xs, hn, ho, hl⟩ := h.rows
  exact ⟨fun k hk => ⟨.inl (h.rown k hk).1, (h.rown k hk).2⟩, h.deep, h.room, im_keep hb hF h.tags hu (fun _ _ e => e), n, xs, hn, ho.kept hg (Classical.em _), fun k hk => (hl k hk).keep hb hF hu (fun _ _ e => e)⟩
/-- Growth elsewhere leaves the writer. -/
theorem RefW.grow (h : RefW W0 F b s w) (hg : w.grownBy w2 none) : RefW W0 (Ext F w w2) b s w2 := by
  obtain ⟨tv, rv, h1, h2⟩ := h.body
  exact ⟨grown_join h.base hg, ext_own h.base h.own hg.size, .inl h.mem, tv, rv, (hg.block b (h.own b h.mem).2 (by simp)).trans h1, fun he => (h2 he).grow h.base h.own hg⟩
/-- The first error is put down. -/
theorem RefW.err (h : RefW W0 F b s w) (n : Nat) (hn : n ≠ 0) : Upto F w (w.setCell ⟨b, 2, none⟩ (.int .i64 n)) ∧ RefW W0 (Ext F w (w.setCell ⟨b, 2, none⟩ (.int .i64 n))) b { s with e := n } (w.setCell ⟨b, 2, none⟩ (.int .i64 n)) := by
  obtain ⟨tv, rv, h1, _⟩ := h.body
  have hs : (w.setCell ⟨b, 2, none⟩ (.int .i64 n)).heap.size = w.heap.size := setCell_size _ _ _
  have hu : Upto F w (w.setCell ⟨b, 2, none⟩ (.int .i64 n)) := ⟨rfl, rfl, rfl, by omega, fun k hk hmu => Below.heap_setCell _ _ _ _ (fun e => hmu (by rw [e]; exact h.mem))⟩
  refine ⟨hu, hu.base h.base (fun k hk => (h.own k hk).1), ext_own h.base h.own hu.size, .inl h.mem, tv, rv, ?_, fun he => absurd he hn⟩
  have := setCell_heap (i := 2) h1 (.int .i64 n)
  simpa using this
end
end Go.Proofs.YtagdcjpjbjboeaaGreatDoor
namespace Go.Proofs.YtagdcjpjbjboeaaGreatDoor
open Go.RowKit
set_option linter.unusedVariables false
/-- s with one more open. -/
def opd (s : De.St) (t : Nat) : De.St := { s with op := (t, []) :: s.op }
theorem tagsOf_opd (s : De.St) (t : Nat) : tagsOf (opd s t) = tagsOf s ++ [(t : Int)] := by simp [tagsOf, opd]
theorem levOf_opd (s : De.St) (t : Nat) (k : Nat) (hk : k ≤ s.op.length + 1) : levOf (opd s t) k = if k = s.op.length + 1 then [] else levOf s k := by
  obtain ⟨e, op, dn⟩ := s
  show levOf ⟨e, (t, []) :: op, dn⟩ k = _
  unfold levOf
  simp only [List.reverse_cons] at hk ⊢
  by_cases h0 : k = 0
  · subst h0; simp
  · rw [if_neg h0, if_neg h0]
    by_cases hq : k = op.length + 1
    · subst hq
      simp [List.getD_eq_getElem?_getD]
    · rw [if_neg hq]
      have : k - 1 < op.reverse.length := by simp; omega
      simp only [List.getD_eq_getElem?_getD]
      rw [List.getElem?_append_left this]
section
variable {W0 w w1 w' : World} {F : Nat → Prop} {b : Nat} {tv rv v1 : Value} {s : De.St}
end
end Go.Proofs.YtagdcjpjbjboeaaGreatDoor
