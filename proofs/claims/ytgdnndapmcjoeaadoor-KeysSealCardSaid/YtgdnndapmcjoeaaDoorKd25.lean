import Derived.Test.YtgdnndapmcjoeaaDoorKd03
import Derived.Test.YtgdnndapmcjoeaaDoorKd15
import Derived.Test.YtgdnndapmcjoeaaDoorKd23
namespace Go.Proofs.YtgdnndapmcjoeaaDoor
open Go.RowKit
namespace Hm
/-- The key that is laid out: a long one is its digest. -/
def key0 (k : List Nat) : List Nat := if 64 < k.length then Sha.sum k else k
def blk (k : List Nat) : List Nat := key0 k ++ List.replicate (64 - (key0 k).length) 0
def mask (c : Nat) (b : List Nat) : List Nat := b.map (fun x => x ^^^ c)
def hmac (k t : List Nat) : List Nat := Sha.sum (mask 92 (blk k) ++ Sha.sum (mask 54 (blk k) ++ t))
end Hm
theorem digN_lt' (s : Sha.St) : ∀ n, ∀ x ∈ Sha.digN s n, x < 256
  | 0 => by simp [Sha.digN]
  | n + 1 => by
    intro x hx
    simp only [Sha.digN, List.mem_append, List.mem_singleton] at hx
    rcases hx with hx | rfl
    · exact digN_lt' s n x hx
    · exact Nat.mod_lt _ (by decide)
theorem sum_lt' (M : List Nat) : ∀ x ∈ Sha.sum M, x < 256 := digN_lt' _ 32
namespace Hm
theorem key0_long {k : List Nat} (h : 64 < k.length) : key0 k = Sha.sum k := if_pos h
theorem key0_short {k : List Nat} (h : ¬ 64 < k.length) : key0 k = k := if_neg h
theorem key0_le (k : List Nat) : (key0 k).length ≤ 64 := by
  by_cases h : 64 < k.length
  · rw [key0_long h, Sha.sum_len]; omega
  · rw [key0_short h]; omega
theorem key0_lt {k : List Nat} (hk : ∀ x ∈ k, x < 256) : ∀ x ∈ key0 k, x < 256 := by
  by_cases h : 64 < k.length
  · rw [key0_long h]; exact sum_lt' k
  · rw [key0_short h]; exact hk
theorem blk_len (k : List Nat) : (blk k).length = 64 := by
  have := key0_le k
  rw [blk, List.length_append, List.length_replicate]; omega
theorem blk_lt {k : List Nat} (hk : ∀ x ∈ k, x < 256) : ∀ x ∈ blk k, x < 256 := by
  intro x hx
  rcases List.mem_append.1 hx with h | h
  · exact key0_lt hk x h
  · rw [(List.mem_replicate.1 h).2]; decide
theorem mask_len (c : Nat) (b : List Nat) : (mask c b).length = b.length := List.length_map ..
theorem mask_lt {c : Nat} {b : List Nat} (hc : c < 256) (hb : ∀ x ∈ b, x < 256) : ∀ x ∈ mask c b, x < 256 := by
  intro x hx
  obtain ⟨y, hy, rfl⟩ := List.mem_map.1 hx
  exact Nat.xor_lt_two_pow (n := 8) (hb y hy) hc
theorem mask_take (c : Nat) (b : List Nat) (i : Nat) (h : i < b.length) : mask c (b.take (i + 1)) = mask c (b.take i) ++ [b.getD i 0 ^^^ c] := by
  rw [List.take_add_one, List.getElem?_eq_getElem h]
  unfold mask
  rw [List.map_append]
  congr 1
  simp [h]
theorem blk_getD (k : List Nat) (i : Nat) (h : i < (key0 k).length) : (blk k).getD i 0 = (key0 k).getD i 0 := by
  rw [blk, List.getD_eq_getElem?_getD, List.getElem?_append_left h, ← List.getD_eq_getElem?_getD]
theorem blk_getD0 (k : List Nat) (i : Nat) (h : ¬ i < (key0 k).length) : (blk k).getD i 0 = 0 := by
  rw [blk, List.getD_eq_getElem?_getD, List.getElem?_append_right (by omega), List.getElem?_replicate]
  split <;> rfl
end Hm
/-- A row of bytes of which the first have their mask. -/
def half (c : Nat) (b : List Nat) (i : Nat) : List Nat := Hm.mask c (b.take i) ++ b.drop i
theorem half_len (c : Nat) (b : List Nat) (i : Nat) (h : i ≤ b.length) : (half c b i).length = b.length := by
  rw [half, List.length_append, Hm.mask_len, List.length_take, List.length_drop]; omega
theorem half_at (c : Nat) (b : List Nat) (i : Nat) (h : i < b.length) : (bytesV (half c b i))[i]? = some (.int .u8 (b.getD i 0 : Nat)) := by
  rw [bytesV_at _ i (by rw [half_len c b i (by omega)]; exact h)]
  congr 3
  rw [half, List.getD_eq_getElem?_getD, List.getElem?_append_right (by rw [Hm.mask_len, List.length_take]; omega), Hm.mask_len, List.length_take, Nat.min_eq_left (by omega), Nat.sub_self]
  simp
theorem half_set (c : Nat) (b : List Nat) (i : Nat) (h : i < b.length) : (bytesV (half c b i)).setIfInBounds i (.int .u8 ((b.getD i 0 ^^^ c : Nat) : Int)) = bytesV (half c b (i + 1)) := by
  have hl : (Hm.mask c (b.take i)).length = i := by rw [Hm.mask_len, List.length_take]; omega
  have hd : b.drop i = b.getD i 0 :: b.drop (i + 1) := by
    rw [List.drop_eq_getElem_cons h]
    simp [h]
  have e : half c b i = Hm.mask c (b.take i) ++ b.getD i 0 :: b.drop (i + 1) := by rw [half, hd]
  rw [e, half, Hm.mask_take c b i h]
  simp only [bytesV, List.map_append, List.map_cons, List.setIfInBounds_toArray, List.map_nil]
  congr 1
  rw [List.set_append_right _ _ (by rw [List.length_map, hl]; exact Nat.le_refl _), List.length_map, hl, Nat.sub_self]
  simp
theorem half_full (c : Nat) (b : List Nat) : half c b b.length = Hm.mask c b := by simp [half]
section
variable {P : Program}
/-- 'copy' of bytes over a block's whole row. -/
theorem copy_bytes {w : World} {dT sT ty e : TypeId} (hu : P.underlying dT = some (.slice e)) (hs : (P.info? e).map (·.size) = some 1)
    {b N : Nat} {Z l : List Nat} {t : TypeId} {v : Value} (hb : w.heap[b]? = some (.cells (bytesV Z) t (0, 0))) (hZ : Z.length = N) (hB : Bytes w v l) (hl : l.length ≤ N) :
    ∃ w', (Builtin.copy_ #[dT, sT] ty #[.slice (some ⟨b, 0, none⟩) N N, v]).run P w = .ok (goInt l.length) w' ∧ w'.heap[b]? = some (.cells (bytesV (l ++ Z.drop l.length)) t (0, 0)) ∧ w.grownBy w' (some b) := by
  obtain ⟨h1, a, sb, so, c, rfl, hc, ha, hcell⟩ := hB
  rcases Nat.eq_zero_or_pos l.length with h0 | h0
  · obtain rfl := List.eq_nil_of_length_eq_zero h0
    exact ⟨w, run_copy_none (P := P) w dT sT ty e (some ⟨b, 0, none⟩) a N N 0 c hu hs (Nat.zero_min _), by simpa using hb, grown_refl _ _⟩
  · obtain ⟨rfl, hsb⟩ := ha h0
    have hr := run_copy_cells (P := P) w dT sT ty e b 0 N N ⟨sb, so, none⟩ l.length c (bytesV l).toList hu hs (by rw [Array.length_toList, bytesV_size]; exact (Nat.min_eq_left hl).symm)
      (fun j u hj => by
        have hjl : j < l.length := by have := (List.getElem?_eq_some_iff.1 hj).1; simpa [bytesV_size] using this
        rw [addr_addO, hcell j hjl, ← bytesV_at l j hjl, ← hj]
        simp)
      (fun j hj => by
        have hjl : j < l.length := by simpa [bytesV_size] using hj
        have hz : j < (bytesV Z).size := by rw [bytesV_size]; omega
        simp [World.cell?, hb, hz])
      (fun j _ => free_blk hb _) (bytesV_mem _)
    have e : (bytesV l).toList.length = l.length := by rw [Array.length_toList, bytesV_size]
    have hr' := hr
    rw [show goInt (((bytesV l).toList.length : Nat) : Int) = goInt (l.length : Int) by rw [e]] at hr'
    refine ⟨_, hr', ?_, grown_setCells b (.inr rfl) _ _ _ (grown_refl _ _)⟩
    have := setCells_heap (b := b) (t := t) (fr := (0, 0)) (bytesV l).toList [] ((bytesV Z).toList.take l.length) ((bytesV Z).toList.drop l.length) w (by simpa using hb) (by simp [bytesV]; omega)
    simpa [bytesV] using this
theorem wpList_copyB {w : World} {ops : Array Oper} {rest : List Oper} {o : Oper} {a : Act} {Q : Exit → Act → World → Prop} (hgd : o.guard = none) (s x : Operand) (t u : TypeId)
    (ho : o.op = .call { callee := .builtin .copy, args := #[s, x], argTypes := #[t, u] }) {e : TypeId} (hu : P.underlying t = some (.slice e)) (hs : (P.info? e).map (·.size) = some 1)
    {b N : Nat} {Z l : List Nat} {T : TypeId} {v : Value} (hd : a.eval s = .slice (some ⟨b, 0, none⟩) N N) (hx : a.eval x = v) (hb : w.heap[b]? = some (.cells (bytesV Z) T (0, 0))) (hZ : Z.length = N) (hB : Bytes w v l) (hl : l.length ≤ N)
    (h : ∀ w', w'.heap[b]? = some (.cells (bytesV (l ++ Z.drop l.length)) T (0, 0)) → w.grownBy w' (some b) → wpList P ops Q rest (a.put o.dst (goInt l.length)) w') : wpList P ops Q (o :: rest) a w := by
  obtain ⟨w', hr, k1, k2⟩ := copy_bytes (P := P) (ty := o.type) (sT := u) hu hs hb hZ hB hl
  refine wpList_plain hgd fun K hK => ?_
  unfold Oper.wp execOp
  simp only [ho, resolve, invoke, builtin, Sem.run_bind, Sem.run_pure, Result.andThen_ok, List.map_toArray, List.map_cons, List.map_nil, hd, hx, hr]
  exact hK _ _ (h w' k1 k2)
end
end Go.Proofs.YtgdnndapmcjoeaaDoor
namespace Go.Proofs.YtgdnndapmcjoeaaDoor
open Go.RowKit
set_option maxRecDepth 100000 in
set_option maxHeartbeats 1000000 in
theorem masked_any (b : List Nat) (hb : b.length = 64) (hlt : ∀ x ∈ b, x < 256) (c : Nat) (hc : c < 256) (w : World) :
    Calls Tryd.prog 58 #[.agg (bytesV b), .int .u8 c] w fun e w' => e = .returned (.slice (some ⟨w.heap.size, 0, none⟩) 64 64) ∧ w.grownBy w' none ∧ w'.heap[w.heap.size]? = some (.cells (bytesV (Hm.mask c b)) 112 (0, 0)) := by
  obtain ⟨V, hV⟩ : ∃ V, V = bytesV b := ⟨_, rfl⟩
  have i64 : Hid ((Tryd.prog.info? 112).map (·.size) = some V.size) := by rw [hV, bytesV_size, hb]; exact Lib.hid (by kernel_rfl)
  rw [← hV]
  have T0 : Hid ((w.alloc (.cells V 112)).heap[w.heap.size]? = some (.cells (bytesV (half c b 0)) 112 (0, 0))) := Lib.hid (by rw [show half c b 0 = b by simp [half, Hm.mask], ← hV]; exact alloc_at _ _)
  have Hb := Lib.hid hb
  have Hlt := Lib.hid hlt
  clear hV hb hlt
  go_enter Tryd.func58, Tryd.ntmps58
  go_wp2
  go_loopw [6] (fun i wr => ∃ k : Nat, k ≤ 64 ∧ i = .int .i64 k ∧ w.grownBy wr none ∧ wr.heap[w.heap.size]? = some (.cells (bytesV (half c b k)) 112 (0, 0))) (fun i _ => 64 - (intOf i).toNat)
  case atStart => exact ⟨0, by omega, rfl, World.grownBy_alloc _ _ _, T0.out⟩
  case round =>
    obtain ⟨k, hk, rfl, hg, hB⟩ := hrel
    by_cases hk64 : k < 64
    · have hkb : k < b.length := by rw [Hb.out]; exact hk64
      have c0 := cell_blk hB k (half_at c b k hkb)
      have f0 := free_blk hB k
      have hx256 : b.getD k 0 < 256 := getD_lt' Hlt.out k
      have hxor := u8_xor_nat (b.getD k 0) c hx256 hc
      have HN : Hid ((wr.setCell ⟨w.heap.size, k, none⟩ (.int .u8 ((b.getD k 0 ^^^ c : Nat) : Int))).heap[w.heap.size]? = some (.cells (bytesV (half c b (k + 1))) 112 (0, 0))) := Lib.hid (by rw [setCell_heap hB, half_set c b k hkb])
      have HG := Lib.hid hg
      clear hB hg hkb
      generalize b.getD k 0 = x at *
      go_wp2
      go_roundw
      case rel => exact ⟨k + 1, by omega, by go_num, grown_set HG.out (.inl (Nat.le_refl _)) _, HN.out⟩
      case measure => simp [intOf]; omega
    · obtain rfl : k = 64 := by omega
      have HG := Lib.hid hg
      have HB : Hid (wr.heap[w.heap.size]? = some (.cells (bytesV (Hm.mask c b)) 112 (0, 0))) := Lib.hid (by rw [hB]; congr 3; rw [← Hb.out]; exact half_full c b)
      clear hB hg
      go_wp2
      go_ret
      exact ⟨rfl, HG.out, HB.out⟩
end Go.Proofs.YtgdnndapmcjoeaaDoor
