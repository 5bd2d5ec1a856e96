/- What a hash stands for: the bytes that went in. Plain mathematics. -/
import Derived.Test.YtckdkcfhkakcfaaDoorShaM
namespace Go.Proofs.YtckdkcfhkakcfaaDoor
namespace Sha

/-- The words behind the first k blocks of a text. -/
def chainW (M : List Nat) : Nat → St
  | 0 => first
  | k + 1 => comp (chainW M k) ((M.drop (64 * k)).take 64)

theorem chainW_append (M x : List Nat) : ∀ k, 64 * k ≤ M.length → chainW (M ++ x) k = chainW M k
  | 0, _ => rfl
  | k + 1, h => by
    rw [chainW, chainW, chainW_append M x k (by omega), List.drop_append_of_le_length (by omega), List.take_append_of_le_length (by simp; omega)]

/-- The hash s stands for the bytes M. -/
structure Rep (s : HS) (M : List Nat) : Prop where
  ok : s.ok
  filled : s.filled < 64
  len : M.length = 64 * s.blocks + s.filled
  rest : s.bytes.take s.filled = M.drop (64 * s.blocks)
  base : s.base = chainW M s.blocks

theorem rep_new : Rep ⟨⟨0, 0, 0, 0, 0, 0, 0, 0⟩, 0, List.replicate 64 0, 0⟩ [] :=
  ⟨⟨⟨by decide, by decide, by decide, by decide, by decide, by decide, by decide, by decide⟩, by simp, by simp, by decide, by decide⟩, by decide, rfl, rfl, rfl⟩

theorem take_filled {s : HS} (h : s.ok) (l : List Nat) : (s.take l).bytes.take (s.take l).filled = s.bytes.take s.filled ++ l.take (s.room l) := by
  have h1 := s.room_le l; have h2 := s.room_le' l; have h3 := h.len; have h4 := h.filled
  have e1 : (s.bytes.take s.filled).length = s.filled := by rw [List.length_take]; omega
  have e2 : (l.take (s.room l)).length = s.room l := by rw [List.length_take]; omega
  show (s.bytes.take s.filled ++ (l.take (s.room l) ++ _)).take (s.filled + s.room l) = _
  rw [← List.append_assoc, List.take_append_of_le_length (by rw [List.length_append, e1, e2]; omega), List.take_of_length_le (by rw [List.length_append, e1, e2]; omega)]

theorem Rep.take {s : HS} {M : List Nat} (h : Rep s M) {l : List Nat} (hl : ∀ x ∈ l, x < 256) (hn : (s.take l).filled ≠ 64) : Rep (s.take l) (M ++ l.take (s.room l)) := by
  have h1 := s.room_le l; have h2 := s.room_le' l; have h3 := h.ok.len; have h4 := h.filled
  have hf : (s.take l).filled = s.filled + s.room l := rfl
  have e2 : (l.take (s.room l)).length = s.room l := by rw [List.length_take]; omega
  refine ⟨HS.take_ok h.ok hl, by omega, ?_, ?_, ?_⟩
  · rw [List.length_append, e2, h.len, hf]; show _ = 64 * s.blocks + _; omega
  · rw [take_filled h.ok, h.rest]
    show _ = List.drop (64 * s.blocks) _
    rw [List.drop_append_of_le_length (by rw [h.len]; omega)]
  · show s.base = chainW _ s.blocks
    rw [chainW_append _ _ _ (by rw [h.len]; omega)]; exact h.base

theorem Rep.full {s : HS} {M : List Nat} (h : Rep s M) {l : List Nat} (hl : ∀ x ∈ l, x < 256) (hn : (s.take l).filled = 64) (hb : s.blocks + 1 < 1152921504606846976) :
    Rep { (s.take l).mix (s.take l).bytes with filled := 0 } (M ++ l.take (s.room l)) := by
  have h1 := s.room_le l; have h2 := s.room_le' l; have h3 := h.ok.len; have h4 := h.filled
  have hf : (s.take l).filled = s.filled + s.room l := rfl
  have e2 : (l.take (s.room l)).length = s.room l := by rw [List.length_take]; omega
  have ht := HS.take_ok h.ok hl
  have hbytes : (s.take l).bytes = M.drop (64 * s.blocks) ++ l.take (s.room l) := by
    have := take_filled h.ok l
    rw [hn, List.take_of_length_le (by rw [ht.len]; omega), h.rest] at this
    exact this
  refine ⟨⟨comp_ok _ _, ht.len, ht.lt, by show 0 ≤ 64; omega, hb⟩, by show 0 < 64; omega, ?_, ?_, ?_⟩
  · show _ = 64 * (s.blocks + 1) + 0
    rw [List.length_append, e2, h.len]; omega
  · show List.take 0 _ = List.drop (64 * (s.blocks + 1)) _
    rw [List.take_zero, List.drop_of_length_le (by rw [List.length_append, e2, h.len]; omega)]
  · show (if s.blocks + 1 = 0 then first else comp s.base (s.take l).bytes) = chainW _ (s.blocks + 1)
    rw [if_neg (by omega), chainW, chainW_append _ _ _ (by rw [h.len]; omega), h.base, hbytes, List.drop_append_of_le_length (by rw [h.len]; omega)]
    have e3 : (List.drop (64 * s.blocks) M ++ List.take (s.room l) l).length ≤ 64 := by rw [List.length_append, List.length_drop, e2, h.len]; omega
    rw [List.take_of_length_le e3]
end Sha
end Go.Proofs.YtckdkcfhkakcfaaDoor
