import Derived.WalkKit
namespace Go.Proofs.YtgdnndapmcjoeaaDoor
namespace Sha
def rotr (x n : Nat) : Nat := (x * 2 ^ (32 - n) % 4294967296) ||| (x / 2 ^ n)
def high (x i j k : Nat) : Nat := rotr x i ^^^ rotr x j ^^^ rotr x k
def low (x i j k : Nat) : Nat := rotr x i ^^^ rotr x j ^^^ (x / 2 ^ k)
def ch (e f g : Nat) : Nat := (e &&& f) ^^^ ((4294967295 - e) &&& g)
def maj (a b c : Nat) : Nat := ((a &&& b) ^^^ (a &&& c)) ^^^ (b &&& c)
theorem div_lt (x k : Nat) (h : x < 4294967296) : x / 2 ^ k < 4294967296 := Nat.lt_of_le_of_lt (Nat.div_le_self _ _) h
theorem rotr_lt (x n : Nat) (h : x < 4294967296) : rotr x n < 4294967296 := by
  have := Nat.or_lt_two_pow (n := 32) (x := x * 2 ^ (32 - n) % 4294967296) (y := x / 2 ^ n) (Nat.mod_lt _ (by decide)) (div_lt x n h)
  simpa [rotr] using this
theorem xor_lt {a b : Nat} (ha : a < 4294967296) (hb : b < 4294967296) : a ^^^ b < 4294967296 := Nat.xor_lt_two_pow (n := 32) ha hb
theorem and_lt {a b : Nat} (ha : a < 4294967296) : a &&& b < 4294967296 := Nat.lt_of_le_of_lt Nat.and_le_left ha
theorem high_lt (x i j k : Nat) (h : x < 4294967296) : high x i j k < 4294967296 := xor_lt (xor_lt (rotr_lt _ _ h) (rotr_lt _ _ h)) (rotr_lt _ _ h)
theorem low_lt (x i j k : Nat) (h : x < 4294967296) : low x i j k < 4294967296 := xor_lt (xor_lt (rotr_lt _ _ h) (rotr_lt _ _ h)) (div_lt _ _ h)
theorem ch_lt (e f g : Nat) (he : e < 4294967296) : ch e f g < 4294967296 := xor_lt (and_lt he) (and_lt (by omega))
theorem maj_lt (a b c : Nat) (ha : a < 4294967296) (hb : b < 4294967296) : maj a b c < 4294967296 := xor_lt (xor_lt (and_lt ha) (and_lt ha)) (and_lt hb)
theorem xor_max (e : Nat) (h : e < 4294967296) : 4294967295 ^^^ e = 4294967295 - e := by
  have e1 : (4294967295 : Nat) = 2 ^ 32 - 1 := by decide
  apply Nat.eq_of_testBit_eq
  intro i
  rw [Nat.testBit_xor, e1, Nat.testBit_two_pow_sub_one, show 2 ^ 32 - 1 - e = 2 ^ 32 - (e + 1) from by omega, Nat.testBit_two_pow_sub_succ (by omega)]
  by_cases hi : i < 32
  · simp [hi]
  · have : e.testBit i = false := Nat.testBit_lt_two_pow (Nat.lt_of_lt_of_le h (Nat.pow_le_pow_right (n := 2) (by decide) (show 32 ≤ i by omega)))
    simp [hi, this]
/-- The words that go from round to round. -/
structure St where
  a : Nat
  b : Nat
  c : Nat
  d : Nat
  e : Nat
  f : Nat
  g : Nat
  h : Nat
def St.ok (s : St) : Prop := s.a < 4294967296 ∧ s.b < 4294967296 ∧ s.c < 4294967296 ∧ s.d < 4294967296 ∧ s.e < 4294967296 ∧ s.f < 4294967296 ∧ s.g < 4294967296 ∧ s.h < 4294967296
def t1 (s : St) (k w : Nat) : Nat := ((((s.h + high s.e 6 11 25) % 4294967296 + ch s.e s.f s.g) % 4294967296 + k) % 4294967296 + w) % 4294967296
def t2 (s : St) : Nat := (high s.a 2 13 22 + maj s.a s.b s.c) % 4294967296
def St.step (s : St) (k w : Nat) : St := ⟨(t1 s k w + t2 s) % 4294967296, s.a, s.b, s.c, (s.d + t1 s k w) % 4294967296, s.e, s.f, s.g⟩
theorem St.step_ok {s : St} (h : s.ok) (k w : Nat) : (s.step k w).ok := by
  obtain ⟨h1, h2, h3, h4, h5, h6, h7, h8⟩ := h
  refine ⟨?_, h1, h2, h3, ?_, h5, h6, h7⟩
  · exact Nat.mod_lt _ (by decide)
  · exact Nat.mod_lt _ (by decide)
/-- The words behind n rounds. -/
def St.run (ks ws : List Nat) (s : St) : Nat → St
  | 0 => s
  | n + 1 => (St.run ks ws s n).step (ks.getD n 0) (ws.getD n 0)
theorem St.run_ok {ks ws : List Nat} {s : St} (h : s.ok) : ∀ n, (St.run ks ws s n).ok
  | 0 => h
  | n + 1 => St.step_ok (St.run_ok h n) _ _
/-- Two rows of words, added. -/
def St.add (s r : St) : St := ⟨(s.a + r.a) % 4294967296, (s.b + r.b) % 4294967296, (s.c + r.c) % 4294967296, (s.d + r.d) % 4294967296, (s.e + r.e) % 4294967296, (s.f + r.f) % 4294967296, (s.g + r.g) % 4294967296, (s.h + r.h) % 4294967296⟩
theorem St.add_ok (s r : St) : (s.add r).ok := by
  refine ⟨?_, ?_, ?_, ?_, ?_, ?_, ?_, ?_⟩ <;> exact Nat.mod_lt _ (by decide)
/-- The next word of a schedule. -/
def nxt (l : List Nat) : Nat := (((l.getD (l.length - 16) 0 + low (l.getD (l.length - 15) 0) 7 18 3) % 4294967296 + l.getD (l.length - 7) 0) % 4294967296 + low (l.getD (l.length - 2) 0) 17 19 10) % 4294967296
def ext (l : List Nat) : Nat → List Nat
  | 0 => l
  | n + 1 => ext l n ++ [nxt (ext l n)]
/-- A block's word number i: four bytes, the first one the highest. -/
def word (b : List Nat) (i : Nat) : Nat := ((b.getD (4 * i) 0 * 16777216 ||| b.getD (4 * i + 1) 0 * 65536) ||| b.getD (4 * i + 2) 0 * 256) ||| b.getD (4 * i + 3) 0
def words (b : List Nat) : Nat → List Nat
  | 0 => []
  | n + 1 => words b n ++ [word b n]
def sched (b : List Nat) : List Nat := ext (words b 16) 48
theorem words_len (b : List Nat) : ∀ n, (words b n).length = n
  | 0 => rfl
  | n + 1 => by simp [words, words_len b n]
theorem ext_len (l : List Nat) : ∀ n, (ext l n).length = l.length + n
  | 0 => rfl
  | n + 1 => by simp [ext, ext_len l n]; omega
theorem sched_len (b : List Nat) : (sched b).length = 64 := by simp [sched, ext_len, words_len]
theorem word_lt (b : List Nat) (i : Nat) (hb : ∀ j, b.getD j 0 < 256) : word b i < 4294967296 := by
  have h0 := hb (4 * i); have h1 := hb (4 * i + 1); have h2 := hb (4 * i + 2); have h3 := hb (4 * i + 3)
  exact Nat.or_lt_two_pow (n := 32) (Nat.or_lt_two_pow (n := 32) (Nat.or_lt_two_pow (n := 32) (by omega) (by omega)) (by omega)) (by omega)
theorem words_lt (b : List Nat) (hb : ∀ j, b.getD j 0 < 256) : ∀ n, ∀ x ∈ words b n, x < 4294967296
  | 0 => by simp [words]
  | n + 1 => by
    intro x hx
    simp only [words, List.mem_append, List.mem_singleton] at hx
    rcases hx with hx | rfl
    · exact words_lt b hb n x hx
    · exact word_lt b n hb
theorem nxt_lt (l : List Nat) : nxt l < 4294967296 := Nat.mod_lt _ (by decide)
theorem ext_lt (l : List Nat) (hl : ∀ x ∈ l, x < 4294967296) : ∀ n, ∀ x ∈ ext l n, x < 4294967296
  | 0 => hl
  | n + 1 => by
    intro x hx
    simp only [ext, List.mem_append, List.mem_singleton] at hx
    rcases hx with hx | rfl
    · exact ext_lt l hl n x hx
    · exact nxt_lt _
theorem getD_lt {l : List Nat} {B : Nat} (hB : 0 < B) (h : ∀ x ∈ l, x < B) (i : Nat) : l.getD i 0 < B := by
  by_cases hi : i < l.length
  · rw [List.getD_eq_getElem?_getD, List.getElem?_eq_getElem hi]; exact h _ (List.getElem_mem hi)
  · rw [List.getD_eq_getElem?_getD, List.getElem?_eq_none (by omega)]; exact hB
def first : St := ⟨1779033703, 3144134277, 1013904242, 2773480762, 1359893119, 2600822924, 528734635, 1541459225⟩
def ks : List Nat := [1116352408, 1899447441, 3049323471, 3921009573, 961987163, 1508970993, 2453635748, 2870763221, 3624381080, 310598401, 607225278, 1426881987, 1925078388, 2162078206, 2614888103, 3248222580, 3835390401, 4022224774, 264347078, 604807628, 770255983, 1249150122, 1555081692, 1996064986, 2554220882, 2821834349, 2952996808, 3210313671, 3336571891, 3584528711, 113926993, 338241895, 666307205, 773529912, 1294757372, 1396182291, 1695183700, 1986661051, 2177026350, 2456956037, 2730485921, 2820302411, 3259730800, 3345764771, 3516065817, 3600352804, 4094571909, 275423344, 430227734, 506948616, 659060556, 883997877, 958139571, 1322822218, 1537002063, 1747873779, 1955562222, 2024104815, 2227730452, 2361852424, 2428436474, 2756734187, 3204031479, 3329325298]
theorem first_ok : first.ok := by refine ⟨?_, ?_, ?_, ?_, ?_, ?_, ?_, ?_⟩ <;> decide
theorem ks_len : ks.length = 64 := by decide
/-- One block more goes into the words. -/
def comp (s : St) (b : List Nat) : St := s.add (s.run ks (sched b) 64)
theorem comp_ok (s : St) (b : List Nat) : (comp s b).ok := St.add_ok _ _
/-- A hash: the words that go from block to block, how many blocks went into them, the bytes that do not fill a block yet. -/
structure HS where
  words : St
  blocks : Nat
  bytes : List Nat
  filled : Nat
structure HS.ok (s : HS) : Prop where
  words : s.words.ok
  len : s.bytes.length = 64
  lt : ∀ x ∈ s.bytes, x < 256
  filled : s.filled ≤ 64
  blocks : s.blocks < 1152921504606846976
def HS.base (s : HS) : St := if s.blocks = 0 then first else s.words
def HS.mix (s : HS) (b : List Nat) : HS := ⟨comp s.base b, s.blocks + 1, s.bytes, s.filled⟩
theorem HS.base_ok {s : HS} (h : s.ok) : s.base.ok := by
  unfold HS.base
  split
  · exact first_ok
  · exact h.words
theorem HS.mix_ok {s : HS} (h : s.ok) (b : List Nat) (hb : s.blocks + 1 < 1152921504606846976) : (s.mix b).ok := by
  unfold HS.mix
  exact ⟨comp_ok _ _, h.len, h.lt, h.filled, hb⟩
/-- As many bytes of l as there is room for come behind those that are there. -/
def HS.room (s : HS) (l : List Nat) : Nat := min (64 - s.filled) l.length
def HS.take (s : HS) (l : List Nat) : HS := { s with bytes := s.bytes.take s.filled ++ (l.take (s.room l) ++ s.bytes.drop (s.filled + s.room l)), filled := s.filled + s.room l }
theorem HS.room_le (s : HS) (l : List Nat) : s.room l ≤ l.length := Nat.min_le_right _ _
theorem HS.room_le' (s : HS) (l : List Nat) : s.room l ≤ 64 - s.filled := Nat.min_le_left _ _
theorem HS.take_ok {s : HS} (h : s.ok) {l : List Nat} (hl : ∀ x ∈ l, x < 256) : (s.take l).ok := by
  have h1 := s.room_le l; have h2 := s.room_le' l; have h3 := h.len; have h4 := h.filled
  refine ⟨h.words, ?_, ?_, ?_, h.blocks⟩
  · simp only [HS.take, List.length_append, List.length_take, List.length_drop, h3]; omega
  · intro x hx
    simp only [HS.take, List.mem_append] at hx
    rcases hx with hx | hx | hx
    · exact h.lt x (List.mem_of_mem_take hx)
    · exact hl x (List.mem_of_mem_take hx)
    · exact h.lt x (List.mem_of_mem_drop hx)
  · show s.filled + s.room l ≤ 64; omega
def St.list (s : St) : List Nat := [s.a, s.b, s.c, s.d, s.e, s.f, s.g, s.h]
theorem St.list_lt {s : St} (h : s.ok) : ∀ x ∈ s.list, x < 4294967296 := by
  obtain ⟨h1, h2, h3, h4, h5, h6, h7, h8⟩ := h
  intro x hx
  simp only [St.list, List.mem_cons, List.not_mem_nil, or_false] at hx
  rcases hx with rfl | rfl | rfl | rfl | rfl | rfl | rfl | rfl <;> assumption
/-- Byte number n of a digest. -/
def digB (s : St) (n : Nat) : Nat := s.list.getD (n / 4) 0 / 2 ^ (24 - 8 * (n % 4)) % 256
def digN (s : St) : Nat → List Nat
  | 0 => []
  | n + 1 => digN s n ++ [digB s n]
def dig (s : St) : List Nat := digN s 32
theorem digN_len (s : St) : ∀ n, (digN s n).length = n
  | 0 => rfl
  | n + 1 => by simp [digN, digN_len s n]
end Sha
end Go.Proofs.YtgdnndapmcjoeaaDoor
namespace Go.Proofs.YtgdnndapmcjoeaaDoor
namespace Sha
/-- The words behind the first k blocks of a text. -/
def chainW (M : List Nat) : Nat → St
  | 0 => first
  | k + 1 => comp (chainW M k) ((M.drop (64 * k)).take 64)
theorem chainW_append (M x : List Nat) : ∀ k, 64 * k ≤ M.length → chainW (M ++ x) k = chainW M k
  | 0, _ => rfl
  | k + 1, h => by
    rw [chainW, chainW, chainW_append M x k (by omega), List.drop_append_of_le_length (by omega), List.take_append_of_le_length (by simp; omega)]
/-- The hash s stands for the bytes M. -/
structure Rep (s : HS) (M : List Nat) : Prop where
  ok : s.ok
  filled : s.filled < 64
  len : M.length = 64 * s.blocks + s.filled
  rest : s.bytes.take s.filled = M.drop (64 * s.blocks)
  base : s.base = chainW M s.blocks
theorem rep_new : Rep ⟨⟨0, 0, 0, 0, 0, 0, 0, 0⟩, 0, List.replicate 64 0, 0⟩ [] :=
  ⟨⟨⟨by decide, by decide, by decide, by decide, by decide, by decide, by decide, by decide⟩, by simp, by simp, by decide, by decide⟩, by decide, rfl, rfl, rfl⟩
theorem take_filled {s : HS} (h : s.ok) (l : List Nat) : (s.take l).bytes.take (s.take l).filled = s.bytes.take s.filled ++ l.take (s.room l) := by
  have h1 := s.room_le l; have h2 := s.room_le' l; have h3 := h.len; have h4 := h.filled
  have e1 : (s.bytes.take s.filled).length = s.filled := by rw [List.length_take]; omega
  have e2 : (l.take (s.room l)).length = s.room l := by rw [List.length_take]; omega
  show (s.bytes.take s.filled ++ (l.take (s.room l) ++ _)).take (s.filled + s.room l) = _
  rw [← List.append_assoc, List.take_append_of_le_length (by rw [List.length_append, e1, e2]; omega), List.take_of_length_le (by rw [List.length_append, e1, e2]; omega)]
theorem Rep.take {s : HS} {M : List Nat} (h : Rep s M) {l : List Nat} (hl : ∀ x ∈ l, x < 256) (hn : (s.take l).filled ≠ 64) : Rep (s.take l) (M ++ l.take (s.room l)) := by
  have h1 := s.room_le l; have h2 := s.room_le' l; have h3 := h.ok.len; have h4 := h.filled
  have hf : (s.take l).filled = s.filled + s.room l := rfl
  have e2 : (l.take (s.room l)).length = s.room l := by rw [List.length_take]; omega
  refine ⟨HS.take_ok h.ok hl, by omega, ?_, ?_, ?_⟩
  · rw [List.length_append, e2, h.len, hf]; show _ = 64 * s.blocks + _; omega
  · rw [take_filled h.ok, h.rest]
    show _ = List.drop (64 * s.blocks) _
    rw [List.drop_append_of_le_length (by rw [h.len]; omega)]
  · show s.base = chainW _ s.blocks
    rw [chainW_append _ _ _ (by rw [h.len]; omega)]; exact h.base
theorem Rep.full {s : HS} {M : List Nat} (h : Rep s M) {l : List Nat} (hl : ∀ x ∈ l, x < 256) (hn : (s.take l).filled = 64) (hb : s.blocks + 1 < 1152921504606846976) :
    Rep { (s.take l).mix (s.take l).bytes with filled := 0 } (M ++ l.take (s.room l)) := by
  have h1 := s.room_le l; have h2 := s.room_le' l; have h3 := h.ok.len; have h4 := h.filled
  have hf : (s.take l).filled = s.filled + s.room l := rfl
  have e2 : (l.take (s.room l)).length = s.room l := by rw [List.length_take]; omega
  have ht := HS.take_ok h.ok hl
  have hbytes : (s.take l).bytes = M.drop (64 * s.blocks) ++ l.take (s.room l) := by
    have := take_filled h.ok l
    rw [hn, List.take_of_length_le (by rw [ht.len]; omega), h.rest] at this
    exact this
  refine ⟨⟨comp_ok _ _, ht.len, ht.lt, by show 0 ≤ 64; omega, hb⟩, by show 0 < 64; omega, ?_, ?_, ?_⟩
  · show _ = 64 * (s.blocks + 1) + 0
    rw [List.length_append, e2, h.len]; omega
  · show List.take 0 _ = List.drop (64 * (s.blocks + 1)) _
    rw [List.take_zero, List.drop_of_length_le (by rw [List.length_append, e2, h.len]; omega)]
  · show (if s.blocks + 1 = 0 then first else comp s.base (s.take l).bytes) = chainW _ (s.blocks + 1)
    rw [if_neg (by omega), chainW, chainW_append _ _ _ (by rw [h.len]; omega), h.base, hbytes, List.drop_append_of_le_length (by rw [h.len]; omega)]
    have e3 : (List.drop (64 * s.blocks) M ++ List.take (s.room l) l).length ≤ 64 := by rw [List.length_append, List.length_drop, e2, h.len]; omega
    rw [List.take_of_length_le e3]
end Sha
end Go.Proofs.YtgdnndapmcjoeaaDoor
namespace Go.Proofs.YtgdnndapmcjoeaaDoor
namespace Sha
def be8N (v : Nat) : Nat → List Nat
  | 0 => []
  | n + 1 => be8N v n ++ [v / 2 ^ (56 - 8 * n) % 256]
def nz (n : Nat) : Nat := (119 - n % 64) % 64
def pad (n : Nat) : List Nat := (128 :: List.replicate (nz n) 0) ++ be8N (8 * n) 8
theorem be8N_len (v : Nat) : ∀ n, (be8N v n).length = n
  | 0 => rfl
  | n + 1 => by simp [be8N, be8N_len v n]
theorem be8N_lt (v : Nat) : ∀ n, ∀ x ∈ be8N v n, x < 256
  | 0 => by simp [be8N]
  | n + 1 => by
    intro x hx
    simp only [be8N, List.mem_append, List.mem_singleton] at hx
    rcases hx with hx | rfl
    · exact be8N_lt v n x hx
    · exact Nat.mod_lt _ (by decide)
theorem pad_len (n : Nat) : (pad n).length = 9 + nz n := by simp [pad, be8N_len]; omega
theorem pad_lt (n : Nat) : ∀ x ∈ pad n, x < 256 := by
  intro x hx
  simp only [pad, List.mem_append, List.mem_cons, List.mem_replicate] at hx
  rcases hx with (rfl | ⟨_, rfl⟩) | hx
  · decide
  · decide
  · exact be8N_lt _ _ x hx
theorem nz_le (n : Nat) : nz n < 64 := Nat.mod_lt _ (by decide)
theorem padded_mod (n : Nat) : (n + (9 + nz n)) % 64 = 0 := by unfold nz; omega
/-- The digest of a text. -/
def sum (M : List Nat) : List Nat := dig (chainW (M ++ pad M.length) ((M.length + (9 + nz M.length)) / 64))
theorem Rep.sum {s : HS} {M : List Nat} (h : Rep s (M ++ pad M.length)) : dig s.words = sum M := by
  have h1 := h.len
  rw [List.length_append, pad_len] at h1
  have h2 := padded_mod M.length
  have h3 := h.filled
  have h4 : s.blocks = (M.length + (9 + nz M.length)) / 64 := by omega
  have h5 : s.blocks ≠ 0 := by omega
  have h6 := h.base
  unfold HS.base at h6
  rw [if_neg h5] at h6
  rw [h6]; unfold Sha.sum
  rw [h4]
theorem sum_len (M : List Nat) : (sum M).length = 32 := digN_len _ _
end Sha
end Go.Proofs.YtgdnndapmcjoeaaDoor
