import Derived.Lib.Hide
import Derived.Lib.DecodeN
import Derived.Lib.TrimUEq
import Derived.Lib.ValidLaws
set_option linter.unusedVariables false
set_option linter.unusedSimpArgs false
namespace Go.Proofs.YtihioekepflpiaaGreatDoor
namespace Pt
/-- How many bytes the first rune has; none, if it isn't UTF-8, or not plain. -/
def step (l : List Nat) : Option Nat :=
  if Lib.decodeN l.length (l.getD 0 0) (l.getD 1 0) (l.getD 2 0) (l.getD 3 0) = (65533, 1) then none
  else if (Lib.decodeN l.length (l.getD 0 0) (l.getD 1 0) (l.getD 2 0) (l.getD 3 0)).1 < 32 ∨ (Lib.decodeN l.length (l.getD 0 0) (l.getD 1 0) (l.getD 2 0) (l.getD 3 0)).1 = 127 then none
  else some (Lib.decodeN l.length (l.getD 0 0) (l.getD 1 0) (l.getD 2 0) (l.getD 3 0)).2
def plainF : Nat → List Nat → Bool
  | 0, _ => true
  | f + 1, l => if l = [] then true else match step l with
    | none => false
    | some k => plainF f (l.drop k)
/-- Is it a plain text? -/
def plain (l : List Nat) : Bool := plainF l.length l
theorem step1 (l : List Nat) (h : l.getD 0 0 < 128) : step l = if l.getD 0 0 < 32 ∨ l.getD 0 0 = 127 then none else some 1 := by
  have e : ∀ n b1 b2 b3, Lib.decodeN n (l.getD 0 0) b1 b2 b3 = (l.getD 0 0, 1) := fun n b1 b2 b3 => by rw [Lib.decodeN, if_pos h]
  rw [step, e, if_neg (by intro h2; have := (Prod.mk.inj h2).1; omega)]
theorem dec2 (n b0 b1 b2 b3 : Nat) (h1 : 192 ≤ b0) (h2 : b0 < 224) : Lib.decodeN n b0 b1 b2 b3 = if 1 < n ∧ (128 ≤ b1 ∧ b1 ≤ 191) ∧ 128 ≤ (b0 - 192) * 64 + (b1 - 128) then ((b0 - 192) * 64 + (b1 - 128), 2) else (65533, 1) := by
  rw [Lib.decodeN, if_neg (by omega)]
  by_cases hc : 1 < n ∧ b1 / 64 = 2
  · rw [if_pos (⟨by omega, hc⟩ : b0 / 32 = 6 ∧ _)]
    by_cases hv : b0 % 32 * 64 + b1 % 64 ≥ 128
    · rw [if_pos hv, if_pos (by omega), Prod.mk.injEq]; omega
    · rw [if_neg hv, if_neg (by omega)]
  · rw [if_neg (by omega), if_neg (by omega), if_neg (by omega), if_neg (by omega)]
theorem dec3 (n b0 b1 b2 b3 : Nat) (h1 : 224 ≤ b0) (h2 : b0 < 240) : Lib.decodeN n b0 b1 b2 b3 = if 2 < n ∧ (128 ≤ b1 ∧ b1 ≤ 191) ∧ (128 ≤ b2 ∧ b2 ≤ 191) ∧ 2048 ≤ ((b0 - 224) * 64 + (b1 - 128)) * 64 + (b2 - 128) ∧ ¬ (55296 ≤ ((b0 - 224) * 64 + (b1 - 128)) * 64 + (b2 - 128) ∧ ((b0 - 224) * 64 + (b1 - 128)) * 64 + (b2 - 128) < 57344) then (((b0 - 224) * 64 + (b1 - 128)) * 64 + (b2 - 128), 3) else (65533, 1) := by
  rw [Lib.decodeN, if_neg (by omega), if_neg (by omega)]
  by_cases hc : (1 < n ∧ b1 / 64 = 2) ∧ (2 < n ∧ b2 / 64 = 2)
  · rw [if_pos (⟨by omega, hc⟩ : b0 / 16 = 14 ∧ _)]
    by_cases hv : b0 % 16 * 4096 + b1 % 64 * 64 + b2 % 64 ≥ 2048 ∧ (b0 % 16 * 4096 + b1 % 64 * 64 + b2 % 64 < 55296 ∨ (57344 ≤ b0 % 16 * 4096 + b1 % 64 * 64 + b2 % 64 ∧ b0 % 16 * 4096 + b1 % 64 * 64 + b2 % 64 ≤ 1114111))
    · rw [if_pos hv, if_pos (by omega), Prod.mk.injEq]; omega
    · rw [if_neg hv, if_neg (by omega)]
  · rw [if_neg (by omega), if_neg (by omega), if_neg (by omega)]
theorem dec4 (n b0 b1 b2 b3 : Nat) (h1 : 240 ≤ b0) (h2 : b0 < 248) : Lib.decodeN n b0 b1 b2 b3 = if 3 < n ∧ (128 ≤ b1 ∧ b1 ≤ 191) ∧ (128 ≤ b2 ∧ b2 ≤ 191) ∧ (128 ≤ b3 ∧ b3 ≤ 191) ∧ 65536 ≤ (((b0 - 240) * 64 + (b1 - 128)) * 64 + (b2 - 128)) * 64 + (b3 - 128) ∧ (((b0 - 240) * 64 + (b1 - 128)) * 64 + (b2 - 128)) * 64 + (b3 - 128) ≤ 1114111 then ((((b0 - 240) * 64 + (b1 - 128)) * 64 + (b2 - 128)) * 64 + (b3 - 128), 4) else (65533, 1) := by
  rw [Lib.decodeN, if_neg (by omega), if_neg (by omega), if_neg (by omega)]
  by_cases hc : (1 < n ∧ b1 / 64 = 2) ∧ (2 < n ∧ b2 / 64 = 2) ∧ (3 < n ∧ b3 / 64 = 2)
  · rw [if_pos (⟨by omega, hc⟩ : b0 / 8 = 30 ∧ _)]
    by_cases hv : b0 % 8 * 262144 + b1 % 64 * 4096 + b2 % 64 * 64 + b3 % 64 ≥ 65536 ∧ (b0 % 8 * 262144 + b1 % 64 * 4096 + b2 % 64 * 64 + b3 % 64 < 55296 ∨ (57344 ≤ b0 % 8 * 262144 + b1 % 64 * 4096 + b2 % 64 * 64 + b3 % 64 ∧ b0 % 8 * 262144 + b1 % 64 * 4096 + b2 % 64 * 64 + b3 % 64 ≤ 1114111))
    · rw [if_pos hv, if_pos (by omega), Prod.mk.injEq]; omega
    · rw [if_neg hv, if_neg (by omega)]
  · rw [if_neg (by omega), if_neg (by omega)]
theorem step_ok {l : List Nat} {v k : Nat} {c : Prop} [Decidable c] (h : Lib.decodeN l.length (l.getD 0 0) (l.getD 1 0) (l.getD 2 0) (l.getD 3 0) = if c then (v, k) else (65533, 1)) (hk : k ≠ 1) (hv : c → 128 ≤ v) : step l = if c then some k else none := by
  rw [step, h]
  by_cases hc : c
  · rw [if_pos hc, if_pos hc, if_neg (by intro e; exact hk (Prod.mk.inj e).2), if_neg (by have := hv hc; simp only; omega)]
  · rw [if_neg hc, if_neg hc, if_pos rfl]
theorem step2 (l : List Nat) (h1 : 192 ≤ l.getD 0 0) (h2 : l.getD 0 0 < 224) :
    step l = if 1 < l.length ∧ (128 ≤ l.getD 1 0 ∧ l.getD 1 0 ≤ 191) ∧ 128 ≤ (l.getD 0 0 - 192) * 64 + (l.getD 1 0 - 128) then some 2 else none :=
  step_ok (dec2 _ _ _ _ _ h1 h2) (by decide) (fun h => h.2.2)
theorem step3 (l : List Nat) (h1 : 224 ≤ l.getD 0 0) (h2 : l.getD 0 0 < 240) :
    step l = if 2 < l.length ∧ (128 ≤ l.getD 1 0 ∧ l.getD 1 0 ≤ 191) ∧ (128 ≤ l.getD 2 0 ∧ l.getD 2 0 ≤ 191) ∧ 2048 ≤ ((l.getD 0 0 - 224) * 64 + (l.getD 1 0 - 128)) * 64 + (l.getD 2 0 - 128) ∧
      ¬ (55296 ≤ ((l.getD 0 0 - 224) * 64 + (l.getD 1 0 - 128)) * 64 + (l.getD 2 0 - 128) ∧ ((l.getD 0 0 - 224) * 64 + (l.getD 1 0 - 128)) * 64 + (l.getD 2 0 - 128) < 57344) then some 3 else none :=
  step_ok (dec3 _ _ _ _ _ h1 h2) (by decide) (fun h => by omega)
theorem step4 (l : List Nat) (h1 : 240 ≤ l.getD 0 0) (h2 : l.getD 0 0 < 248) :
    step l = if 3 < l.length ∧ (128 ≤ l.getD 1 0 ∧ l.getD 1 0 ≤ 191) ∧ (128 ≤ l.getD 2 0 ∧ l.getD 2 0 ≤ 191) ∧ (128 ≤ l.getD 3 0 ∧ l.getD 3 0 ≤ 191) ∧ 65536 ≤ (((l.getD 0 0 - 240) * 64 + (l.getD 1 0 - 128)) * 64 + (l.getD 2 0 - 128)) * 64 + (l.getD 3 0 - 128) ∧
      (((l.getD 0 0 - 240) * 64 + (l.getD 1 0 - 128)) * 64 + (l.getD 2 0 - 128)) * 64 + (l.getD 3 0 - 128) ≤ 1114111 then some 4 else none :=
  step_ok (dec4 _ _ _ _ _ h1 h2) (by decide) (fun h => by omega)
theorem stepX (l : List Nat) (h : (128 ≤ l.getD 0 0 ∧ l.getD 0 0 < 192) ∨ 248 ≤ l.getD 0 0) (h2 : l.getD 0 0 < 256) : step l = none := by
  generalize hb0 : l.getD 0 0 = b0 at *
  have e : Lib.decodeN l.length b0 (l.getD 1 0) (l.getD 2 0) (l.getD 3 0) = (65533, 1) := by
    rw [Lib.decodeN, if_neg (by omega), if_neg (by omega), if_neg (by omega), if_neg (by omega)]
  rw [step, hb0, e, if_pos rfl]
theorem step_le {l : List Nat} {k : Nat} (hl : l ≠ []) (h8 : l.getD 0 0 < 256) (h : step l = some k) : 1 ≤ k ∧ k ≤ l.length := by
  have hp : 0 < l.length := by cases l with | nil => exact absurd rfl hl | cons x r => simp
  rcases Nat.lt_or_ge (l.getD 0 0) 128 with c | c
  · rw [step1 l c] at h; split at h <;> cases h; omega
  · rcases Nat.lt_or_ge (l.getD 0 0) 192 with c2 | c2
    · rw [stepX l (.inl ⟨c, c2⟩) h8] at h; cases h
    · rcases Nat.lt_or_ge (l.getD 0 0) 224 with c3 | c3
      · rw [step2 l c2 c3] at h; split at h <;> cases h; omega
      · rcases Nat.lt_or_ge (l.getD 0 0) 240 with c4 | c4
        · rw [step3 l c3 c4] at h; split at h <;> cases h; omega
        · rcases Nat.lt_or_ge (l.getD 0 0) 248 with c5 | c5
          · rw [step4 l c4 c5] at h; split at h <;> cases h; omega
          · rw [stepX l (.inr c5) h8] at h; cases h
theorem plainF_nil (f : Nat) : plainF f [] = true := by cases f <;> simp [plainF]
/-- More fuel says the same. -/
theorem plainF_fuel : ∀ (f g : Nat) (l : List Nat), (∀ x ∈ l, x < 256) → l.length ≤ f → l.length ≤ g → plainF f l = plainF g l
  | 0, g, l, _, hf, _ => by
    obtain rfl := List.eq_nil_of_length_eq_zero (Nat.le_zero.1 hf)
    rw [plainF_nil, plainF_nil]
  | f + 1, 0, l, _, _, hg => by
    obtain rfl := List.eq_nil_of_length_eq_zero (Nat.le_zero.1 hg)
    rw [plainF_nil, plainF_nil]
  | f + 1, g + 1, l, h8, hf, hg => by
    rw [plainF, plainF]
    by_cases hl : l = []
    · rw [if_pos hl, if_pos hl]
    · rw [if_neg hl, if_neg hl]
      cases hs : step l with
      | none => rfl
      | some k =>
        have hk := step_le hl (by
          have hp : 0 < l.length := by cases l with | nil => exact absurd rfl hl | cons x r => simp
          rw [List.getD_eq_getElem?_getD, List.getElem?_eq_getElem hp]
          exact h8 _ (List.getElem_mem hp)) hs
        exact plainF_fuel f g (l.drop k) (fun x hx => h8 x (List.mem_of_mem_drop hx)) (by rw [List.length_drop]; omega) (by rw [List.length_drop]; omega)
/-- One rune on. -/
theorem plain_step {l : List Nat} (h8 : ∀ x ∈ l, x < 256) (hl : l ≠ []) : plain l = match step l with
    | none => false
    | some k => plain (l.drop k) := by
  have hp : 0 < l.length := by cases l with | nil => exact absurd rfl hl | cons x r => simp
  have h0 : l.getD 0 0 < 256 := by
    rw [List.getD_eq_getElem?_getD, List.getElem?_eq_getElem hp]; exact h8 _ (List.getElem_mem hp)
  obtain ⟨n, hn⟩ : ∃ n, l.length = n + 1 := ⟨l.length - 1, by omega⟩
  have e : plain l = plainF (n + 1) l := by rw [plain, hn]
  rw [e, plainF, if_neg hl]
  cases hs : step l with
  | none => rfl
  | some k =>
    have hk := step_le hl h0 hs
    exact plainF_fuel n _ _ (fun x hx => h8 x (List.mem_of_mem_drop hx)) (by rw [List.length_drop]; omega) (Nat.le_refl _)
/-- Is it a label? -/
def okc (c : Nat) : Bool := (decide (97 ≤ c) && decide (c ≤ 122)) || ((decide (48 ≤ c) && decide (c ≤ 57)) || decide (c = 45))
def label (l : List Nat) : Bool := decide (1 ≤ l.length ∧ l.length ≤ 24) && (decide (l.getD 0 0 ≠ 45) && (decide (l.getD (l.length - 1) 0 ≠ 45) && l.all okc))
/-- The error's number of a text of at most so many bytes. -/
def asked (l : List Nat) (most : Int) : Nat := if l.length = 0 then 2 else if most < (l.length : Int) then 3 else if plain l = true then 0 else 8
end Pt
end Go.Proofs.YtihioekepflpiaaGreatDoor
namespace Go.Proofs.YtihioekepflpiaaGreatDoor
namespace Pt
/-- Bytes as numbers. -/
def nums (l : List UInt8) : List Nat := l.map (·.toNat)
theorem nums_len (l : List UInt8) : (nums l).length = l.length := by rw [nums, List.length_map]
theorem nums_at (l : List UInt8) (i : Nat) : (nums l).getD i 0 = (l.getD i 0).toNat := by
  rw [List.getD_eq_getElem?_getD, List.getD_eq_getElem?_getD, nums, List.getElem?_map]
  cases l[i]? <;> rfl
theorem nums_lt (l : List UInt8) : ∀ x ∈ nums l, x < 256 := by
  intro x hx
  obtain ⟨b, _, rfl⟩ := List.mem_map.1 hx
  exact b.toNat_lt
theorem nums_drop (l : List UInt8) (k : Nat) : (nums l).drop k = nums (l.drop k) := by rw [nums, nums, List.map_drop]
theorem step_decode (l : List UInt8) : step (nums l) = if Lib.decodeL l = (65533, 1) then none else if (Lib.decodeL l).1 < 32 ∨ (Lib.decodeL l).1 = 127 then none else some (Lib.decodeL l).2 := by
  rw [step, nums_at, nums_at, nums_at, nums_at, nums_len, Lib.decodeL_N]
/-- One rune on, by the model's own decoder. -/
theorem plain_decode (l : List UInt8) (hne : l ≠ []) (hv : Lib.validD l = true) :
    plain (nums l) = (if (Lib.decodeL l).1 < 32 ∨ (Lib.decodeL l).1 = 127 then false else plain (nums (l.drop (Lib.decodeL l).2))) ∧ Lib.validD (l.drop (Lib.decodeL l).2) = true := by
  rw [Lib.validD_step l hne] at hv
  split at hv
  · cases hv
  · rename_i hb
    have hb2 : Lib.decodeL l ≠ (65533, 1) := fun e => hb (by rw [e]; exact ⟨rfl, rfl⟩)
    refine ⟨?_, hv⟩
    rw [plain_step (nums_lt l) (by intro e; exact hne (List.map_eq_nil_iff.1 e)), step_decode, if_neg hb2]
    by_cases hc : (Lib.decodeL l).1 < 32 ∨ (Lib.decodeL l).1 = 127
    · rw [if_pos hc, if_pos hc]
    · rw [if_neg hc, if_neg hc]
      show plain ((nums l).drop _) = _
      rw [nums_drop]
theorem plain_invalidF : ∀ (n : Nat) (l : List UInt8), l.length ≤ n → Lib.validD l = false → plain (nums l) = false
  | 0, l, hn, hv => by
    obtain rfl := List.eq_nil_of_length_eq_zero (Nat.le_zero.1 hn)
    rw [Lib.validD_nil] at hv
    cases hv
  | n + 1, l, hn, hv => by
    by_cases hne : l = []
    · subst hne; rw [Lib.validD_nil] at hv; cases hv
    · rw [Lib.validD_step l hne] at hv
      rw [plain_step (nums_lt l) (by intro e; exact hne (List.map_eq_nil_iff.1 e)), step_decode]
      split at hv
      · rename_i hb
        rw [if_pos (Prod.ext hb.1 hb.2)]
      · rename_i hb
        have hb2 : Lib.decodeL l ≠ (65533, 1) := fun e => hb (by rw [e]; exact ⟨rfl, rfl⟩)
        rw [if_neg hb2]
        by_cases hc : (Lib.decodeL l).1 < 32 ∨ (Lib.decodeL l).1 = 127
        · rw [if_pos hc]
        · rw [if_neg hc]
          show plain ((nums l).drop _) = _
          rw [nums_drop]
          have hw := Lib.decodeL_width l
          have hp := List.length_pos_iff.2 hne
          exact plain_invalidF n _ (by rw [List.length_drop]; omega) hv
theorem plain_invalid (l : List UInt8) (hv : Lib.validD l = false) : plain (nums l) = false := plain_invalidF l.length l (Nat.le_refl _) hv
/-- Labels, by the model's own decoder: all runes are bytes. -/
theorem allok_decode (l : List UInt8) (hne : l ≠ []) : (nums l).all okc = (okc (Lib.decodeL l).1 && (nums (l.drop (Lib.decodeL l).2)).all okc) := by
  match l, hne with
  | b :: t, _ =>
    by_cases hb : b.toNat < 128
    · rw [Lib.decodeL_ascii b t hb]
      simp [nums]
    · have h1 : okc b.toNat = false := by simp [okc]; omega
      have h2 : okc (Lib.decodeL (b :: t)).1 = false := by
        rw [Lib.decodeL_N]
        have h0 : ((b :: t).getD 0 0).toNat = b.toNat := rfl
        rw [h0]
        have hlt := b.toNat_lt
        generalize b.toNat = x at *
        generalize ((b :: t).getD 1 0).toNat = y
        generalize ((b :: t).getD 2 0).toNat = z
        generalize ((b :: t).getD 3 0).toNat = u
        generalize (b :: t).length = n
        have : 128 ≤ (Lib.decodeN n x y z u).1 := by
          unfold Lib.decodeN
          repeat' split
          all_goals (simp only; omega)
        simp [okc]; omega
      rw [h2]
      simp [nums, h1]
end Pt
end Go.Proofs.YtihioekepflpiaaGreatDoor
