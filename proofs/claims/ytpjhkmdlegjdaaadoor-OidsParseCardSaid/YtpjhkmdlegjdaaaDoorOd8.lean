/- Identifiers, as plain functions. It names no program. Identifiers' texts and arcs tell one another. It names no program. -/
import Derived.Test.YtpjhkmdlegjdaaaDoorWh1
namespace Go.Proofs.YtpjhkmdlegjdaaaDoor
namespace Od
/-- Which arcs are an identifier's. -/
def right (l : List Int) : Bool :=
  decide (2 ≤ l.length) && decide (l.length ≤ 16) && decide (0 ≤ l.getD 0 0) && decide (l.getD 0 0 ≤ 2) && (decide (2 ≤ l.getD 0 0) || decide (l.getD 1 0 ≤ 39)) && l.all fun n => decide (0 ≤ n) && decide (n ≤ 2147483647)
theorem right_iff (l : List Int) : right l = true ↔ (2 ≤ l.length ∧ l.length ≤ 16 ∧ 0 ≤ l.getD 0 0 ∧ l.getD 0 0 ≤ 2 ∧ (2 ≤ l.getD 0 0 ∨ l.getD 1 0 ≤ 39)) ∧ ∀ n ∈ l, 0 ≤ n ∧ n ≤ 2147483647 := by
  simp only [right, Bool.and_eq_true, Bool.or_eq_true, decide_eq_true_eq, List.all_eq_true]
  constructor
  · rintro ⟨⟨⟨⟨⟨h1, h2⟩, h3⟩, h4⟩, h5⟩, h6⟩
    exact ⟨⟨h1, h2, h3, h4, h5⟩, h6⟩
  · rintro ⟨⟨h1, h2, h3, h4, h5⟩, h6⟩
    exact ⟨⟨⟨⟨⟨h1, h2⟩, h3⟩, h4⟩, h5⟩, h6⟩
/-- The order of lists: -1, 0 or 1. -/
def cmp : List Int → List Int → Int
  | [], [] => 0
  | [], _ :: _ => -1
  | _ :: _, [] => 1
  | x :: r, y :: s => if x < y then -1 else if y < x then 1 else cmp r s
/-- The pieces of a text between dots, the first one behind what stands already. -/
def splitA : List Nat → List Nat → List (List Nat)
  | acc, [] => [acc]
  | acc, c :: r => if c = 46 then acc :: splitA [] r else splitA (acc ++ [c]) r
def split (l : List Nat) : List (List Nat) := splitA [] l
def part (p : List Nat) : Option Int := if Wh.figs p = true ∧ p.length ≤ 10 then some ((Wh.pval p : Nat) : Int) else none
def arcs : List (List Nat) → Option (List Int)
  | [] => some []
  | p :: r => match part p, arcs r with
    | some n, some l => some (n :: l)
    | _, _ => none
/-- What Parse answers: the arcs, the error's number. -/
def parse (l : List Nat) : Except Nat (List Int) :=
  match arcs (split l) with
  | none => .error 4
  | some a => if right a = true then .ok a else .error 1
/-- Arcs' text. -/
def text : List Int → List Nat
  | [] => []
  | [n] => Wh.dig n.toNat
  | n :: r => Wh.dig n.toNat ++ 46 :: text r
end Od
end Go.Proofs.YtpjhkmdlegjdaaaDoor
namespace Go.Proofs.YtpjhkmdlegjdaaaDoor
namespace Od
def join : List (List Nat) → List Nat
  | [] => []
  | [p] => p
  | p :: r => p ++ 46 :: join r
theorem join_cons (p : List Nat) (r : List (List Nat)) (h : r ≠ []) : join (p :: r) = p ++ 46 :: join r := by
  match r, h with
  | _ :: _, _ => rfl
theorem splitA_ne (l acc : List Nat) : splitA acc l ≠ [] := by
  cases l with
  | nil => simp [splitA]
  | cons c r =>
    rw [splitA]
    split
    · simp
    · exact splitA_ne r _
theorem join_splitA : ∀ (l acc : List Nat), join (splitA acc l) = acc ++ l
  | [], acc => by simp [splitA, join]
  | c :: r, acc => by
    rw [splitA]
    split
    · rename_i h
      subst h
      rw [join_cons _ _ (splitA_ne r []), join_splitA r []]
      simp
    · rw [join_splitA r (acc ++ [c])]
      simp
theorem text_join : ∀ l : List Int, text l = join (l.map fun n => Wh.dig n.toNat)
  | [] => rfl
  | [n] => rfl
  | x :: y :: r => by
    have h := text_join (y :: r)
    rw [List.map_cons, join_cons _ _ (by simp), ← h]
    rfl
theorem part_dig {p : List Nat} {n : Int} (h : part p = some n) : 0 ≤ n ∧ Wh.dig n.toNat = p := by
  rw [part] at h
  split at h
  · rename_i hf
    obtain rfl := Option.some.inj h
    exact ⟨by omega, by rw [Int.toNat_natCast]; exact ((Wh.figs_iff p).1 hf.1).2.2⟩
  · cases h
theorem arcs_dig : ∀ {ps : List (List Nat)} {l : List Int}, arcs ps = some l → (l.map fun n => Wh.dig n.toNat) = ps
  | [], l, h => by
    rw [arcs] at h
    obtain rfl := Option.some.inj h
    rfl
  | p :: r, l, h => by
    rw [arcs] at h
    cases hp : part p with
    | none => rw [hp] at h; cases h
    | some n =>
      cases hr : arcs r with
      | none => rw [hp, hr] at h; cases h
      | some m =>
        rw [hp, hr] at h
        obtain rfl := Option.some.inj h
        rw [List.map_cons, (part_dig hp).2, arcs_dig hr]
theorem parse_ok {s : List Nat} {l : List Int} (h : parse s = .ok l) : arcs (split s) = some l ∧ right l = true := by
  rw [parse] at h
  split at h
  · cases h
  · rename_i a ha
    split at h
    · rename_i hr
      obtain rfl := Except.ok.inj h
      exact ⟨ha, hr⟩
    · cases h
/-- The arcs of a text make that text. -/
theorem text_parse {s : List Nat} {l : List Int} (h : parse s = .ok l) : text l = s := by
  rw [text_join, arcs_dig (parse_ok h).1, split, join_splitA]
  rfl

theorem splitA_piece : ∀ (d acc t : List Nat), (∀ c ∈ d, c ≠ 46) → splitA acc (d ++ 46 :: t) = (acc ++ d) :: splitA [] t
  | [], acc, t, _ => by simp [splitA]
  | c :: r, acc, t, h => by
    rw [List.cons_append, splitA, if_neg (h c (by simp)), splitA_piece r _ t (fun x hx => h x (by simp [hx]))]
    simp
theorem splitA_last : ∀ (d acc : List Nat), (∀ c ∈ d, c ≠ 46) → splitA acc d = [acc ++ d]
  | [], acc, _ => by simp [splitA]
  | c :: r, acc, h => by
    rw [splitA, if_neg (h c (by simp)), splitA_last r _ (fun x hx => h x (by simp [hx]))]
    simp
theorem dig_no46 (n : Nat) (h : n < 100000000000000000000) : ∀ c ∈ Wh.dig n, c ≠ 46 := fun c hc => by
  have := List.all_eq_true.1 (Wh.dig_fig n h) c hc
  simp [Wh.fig] at this
  omega
theorem split_text : ∀ (l : List Int), l ≠ [] → (∀ n ∈ l, n ≤ 2147483647) → split (text l) = l.map fun n => Wh.dig n.toNat
  | [n], _, hl => by
    have h1 := hl n (by simp)
    rw [split, text, splitA_last _ _ (dig_no46 _ (by omega))]
    simp
  | x :: y :: r, _, hl => by
    have h1 := hl x (by simp)
    have h := split_text (y :: r) (by simp) (fun n hn => hl n (by simp [hn]))
    have e : text (x :: y :: r) = Wh.dig x.toNat ++ 46 :: text (y :: r) := rfl
    rw [split] at h
    rw [split, e, splitA_piece _ _ _ (dig_no46 _ (by omega)), h]
    simp
theorem dig_len_of : ∀ (k n : Nat), n < 10 ^ (k + 1) → n < 100000000000000000000 → (Wh.dig n).length ≤ k + 1
  | 0, n, h, _ => by
    have : n < 10 := by simpa using h
    rw [Wh.dig_small this]; simp
  | k + 1, n, h, h20 => by
    rcases Nat.lt_or_ge n 10 with h10 | h10
    · rw [Wh.dig_small h10]; simp
    · rw [Wh.dig_step h10 h20, List.length_append]
      have := dig_len_of k (n / 10) (by rw [Nat.pow_succ] at h; omega) (by omega)
      simp
      omega
theorem part_of (n : Int) (h0 : 0 ≤ n) (h1 : n ≤ 2147483647) : part (Wh.dig n.toNat) = some n := by
  obtain ⟨k1, k2⟩ := Wh.figs_dig (n := n.toNat) (by omega)
  have h10 : (Wh.dig n.toNat).length ≤ 10 := dig_len_of 9 n.toNat (Nat.lt_of_le_of_lt (show n.toNat ≤ 2147483647 by omega) (by decide)) (by omega)
  rw [part, if_pos ⟨k1, h10⟩, k2, Int.toNat_of_nonneg h0]
theorem arcs_of : ∀ (l : List Int), (∀ n ∈ l, 0 ≤ n ∧ n ≤ 2147483647) → arcs (l.map fun n => Wh.dig n.toNat) = some l
  | [], _ => rfl
  | n :: r, h => by
    have h1 := h n (by simp)
    rw [List.map_cons, arcs, part_of n h1.1 h1.2, arcs_of r (fun x hx => h x (by simp [hx]))]
/-- The text of right arcs is read as they. -/
theorem parse_text {l : List Int} (h : right l = true) : parse (text l) = .ok l := by
  obtain ⟨⟨h2, _⟩, hall⟩ := (right_iff l).1 h
  have hne : l ≠ [] := by intro e; rw [e] at h2; simp at h2
  rw [parse, split_text l hne (fun n hn => (hall n hn).2), arcs_of l hall]
  simp [h]
end Od
end Go.Proofs.YtpjhkmdlegjdaaaDoor
