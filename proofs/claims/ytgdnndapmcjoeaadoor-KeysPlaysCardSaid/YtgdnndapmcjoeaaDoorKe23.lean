import Derived.Test.YtgdnndapmcjoeaaDoorKe03
import Derived.Test.YtgdnndapmcjoeaaDoorKe13
import Derived.Test.YtgdnndapmcjoeaaDoorKe21
namespace Go.Proofs.YtgdnndapmcjoeaaDoor
open Go.RowKit
namespace Hm
/-- The key that is laid out: a long one is its digest. -/
def key0 (k : List Nat) : List Nat := if 64 < k.length then Sha.sum k else k
def blk (k : List Nat) : List Nat := key0 k ++ List.replicate (64 - (key0 k).length) 0
def mask (c : Nat) (b : List Nat) : List Nat := b.map (fun x => x ^^^ c)
def hmac (k t : List Nat) : List Nat := Sha.sum (mask 92 (blk k) ++ Sha.sum (mask 54 (blk k) ++ t))
end Hm
theorem digN_lt' (s : Sha.St) : ∀ n, ∀ x ∈ Sha.digN s n, x < 256
  | 0 => by simp [Sha.digN]
  | n + 1 => by
    intro x hx
    simp only [Sha.digN, List.mem_append, List.mem_singleton] at hx
    rcases hx with hx | rfl
    · exact digN_lt' s n x hx
    · exact Nat.mod_lt _ (by decide)
theorem sum_lt' (M : List Nat) : ∀ x ∈ Sha.sum M, x < 256 := digN_lt' _ 32
namespace Hm
theorem key0_long {k : List Nat} (h : 64 < k.length) : key0 k = Sha.sum k := if_pos h
theorem key0_short {k : List Nat} (h : ¬ 64 < k.length) : key0 k = k := if_neg h
theorem key0_le (k : List Nat) : (key0 k).length ≤ 64 := by
  by_cases h : 64 < k.length
  · rw [key0_long h, Sha.sum_len]; omega
  · rw [key0_short h]; omega
theorem key0_lt {k : List Nat} (hk : ∀ x ∈ k, x < 256) : ∀ x ∈ key0 k, x < 256 := by
  by_cases h : 64 < k.length
  · rw [key0_long h]; exact sum_lt' k
  · rw [key0_short h]; exact hk
theorem blk_len (k : List Nat) : (blk k).length = 64 := by
  have := key0_le k
  rw [blk, List.length_append, List.length_replicate]; omega
theorem blk_lt {k : List Nat} (hk : ∀ x ∈ k, x < 256) : ∀ x ∈ blk k, x < 256 := by
  intro x hx
  rcases List.mem_append.1 hx with h | h
  · exact key0_lt hk x h
  · rw [(List.mem_replicate.1 h).2]; decide
theorem mask_len (c : Nat) (b : List Nat) : (mask c b).length = b.length := List.length_map ..
theorem mask_lt {c : Nat} {b : List Nat} (hc : c < 256) (hb : ∀ x ∈ b, x < 256) : ∀ x ∈ mask c b, x < 256 := by
  intro x hx
  obtain ⟨y, hy, rfl⟩ := List.mem_map.1 hx
  exact Nat.xor_lt_two_pow (n := 8) (hb y hy) hc
theorem mask_take (c : Nat) (b : List Nat) (i : Nat) (h : i < b.length) : mask c (b.take (i + 1)) = mask c (b.take i) ++ [b.getD i 0 ^^^ c] := by
  rw [List.take_add_one, List.getElem?_eq_getElem h]
  unfold mask
  rw [List.map_append]
  congr 1
  simp [h]
theorem blk_getD (k : List Nat) (i : Nat) (h : i < (key0 k).length) : (blk k).getD i 0 = (key0 k).getD i 0 := by
  rw [blk, List.getD_eq_getElem?_getD, List.getElem?_append_left h, ← List.getD_eq_getElem?_getD]
theorem blk_getD0 (k : List Nat) (i : Nat) (h : ¬ i < (key0 k).length) : (blk k).getD i 0 = 0 := by
  rw [blk, List.getD_eq_getElem?_getD, List.getElem?_append_right (by omega), List.getElem?_replicate]
  split <;> rfl
end Hm
/-- A row of bytes of which the first have their mask. -/
def half (c : Nat) (b : List Nat) (i : Nat) : List Nat := Hm.mask c (b.take i) ++ b.drop i
theorem half_len (c : Nat) (b : List Nat) (i : Nat) (h : i ≤ b.length) : (half c b i).length = b.length := by
  rw [half, List.length_append, Hm.mask_len, List.length_take, List.length_drop]; omega
theorem half_at (c : Nat) (b : List Nat) (i : Nat) (h : i < b.length) : (bytesV (half c b i))[i]? = some (.int .u8 (b.getD i 0 : Nat)) := by
  rw [bytesV_at _ i (by rw [half_len c b i (by omega)]; exact h)]
  congr 3
  rw [half, List.getD_eq_getElem?_getD, List.getElem?_append_right (by rw [Hm.mask_len, List.length_take]; omega), Hm.mask_len, List.length_take, Nat.min_eq_left (by omega), Nat.sub_self]
  simp
theorem half_set (c : Nat) (b : List Nat) (i : Nat) (h : i < b.length) : (bytesV (half c b i)).setIfInBounds i (.int .u8 ((b.getD i 0 ^^^ c : Nat) : Int)) = bytesV (half c b (i + 1)) := by
  have hl : (Hm.mask c (b.take i)).length = i := by rw [Hm.mask_len, List.length_take]; omega
  have hd : b.drop i = b.getD i 0 :: b.drop (i + 1) := by
    rw [List.drop_eq_getElem_cons h]
    simp [h]
  have e : half c b i = Hm.mask c (b.take i) ++ b.getD i 0 :: b.drop (i + 1) := by rw [half, hd]
  rw [e, half, Hm.mask_take c b i h]
  simp only [bytesV, List.map_append, List.map_cons, List.setIfInBounds_toArray, List.map_nil]
  congr 1
  rw [List.set_append_right _ _ (by rw [List.length_map, hl]; exact Nat.le_refl _), List.length_map, hl, Nat.sub_self]
  simp
theorem half_full (c : Nat) (b : List Nat) : half c b b.length = Hm.mask c b := by simp [half]
section
variable {P : Program}
/-- 'copy' of bytes over a block's whole row. -/
theorem copy_bytes {w : World} {dT sT ty e : TypeId} (hu : P.underlying dT = some (.slice e)) (hs : (P.info? e).map (·.size) = some 1)
    {b N : Nat} {Z l : List Nat} {t : TypeId} {v : Value} (hb : w.heap[b]? = some (.cells (bytesV Z) t (0, 0))) (hZ : Z.length = N) (hB : Bytes w v l) (hl : l.length ≤ N) :
    ∃ w', (Builtin.copy_ #[dT, sT] ty #[.slice (some ⟨b, 0, none⟩) N N, v]).run P w = .ok (goInt l.length) w' ∧ w'.heap[b]? = some (.cells (bytesV (l ++ Z.drop l.length)) t (0, 0)) ∧ w.grownBy w' (some b) := by
  obtain ⟨h1, a, sb, so, c, rfl, hc, ha, hcell⟩ := hB
  rcases Nat.eq_zero_or_pos l.length with h0 | h0
  · obtain rfl := List.eq_nil_of_length_eq_zero h0
    exact ⟨w, run_copy_none (P := P) w dT sT ty e (some ⟨b, 0, none⟩) a N N 0 c hu hs (Nat.zero_min _), by simpa using hb, grown_refl _ _⟩
  · obtain ⟨rfl, hsb⟩ := ha h0
    have hr := run_copy_cells (P := P) w dT sT ty e b 0 N N ⟨sb, so, none⟩ l.length c (bytesV l).toList hu hs (by rw [Array.length_toList, bytesV_size]; exact (Nat.min_eq_left hl).symm)
      (fun j u hj => by
        have hjl : j < l.length := by have := (List.getElem?_eq_some_iff.1 hj).1; simpa [bytesV_size] using this
        rw [addr_addO, hcell j hjl, ← bytesV_at l j hjl, ← hj]
        simp)
      (fun j hj => by
        have hjl : j < l.length := by simpa [bytesV_size] using hj
        have hz : j < (bytesV Z).size := by rw [bytesV_size]; omega
        simp [World.cell?, hb, hz])
      (fun j _ => free_blk hb _) (bytesV_mem _)
    have e : (bytesV l).toList.length = l.length := by rw [Array.length_toList, bytesV_size]
    have hr' := hr
    rw [show goInt (((bytesV l).toList.length : Nat) : Int) = goInt (l.length : Int) by rw [e]] at hr'
    refine ⟨_, hr', ?_, grown_setCells b (.inr rfl) _ _ _ (grown_refl _ _)⟩
    have := setCells_heap (b := b) (t := t) (fr := (0, 0)) (bytesV l).toList [] ((bytesV Z).toList.take l.length) ((bytesV Z).toList.drop l.length) w (by simpa using hb) (by simp [bytesV]; omega)
    simpa [bytesV] using this
theorem wpList_copyB {w : World} {ops : Array Oper} {rest : List Oper} {o : Oper} {a : Act} {Q : Exit → Act → World → Prop} (hgd : o.guard = none) (s x : Operand) (t u : TypeId)
    (ho : o.op = .call { callee := .builtin .copy, args := #[s, x], argTypes := #[t, u] }) {e : TypeId} (hu : P.underlying t = some (.slice e)) (hs : (P.info? e).map (·.size) = some 1)
    {b N : Nat} {Z l : List Nat} {T : TypeId} {v : Value} (hd : a.eval s = .slice (some ⟨b, 0, none⟩) N N) (hx : a.eval x = v) (hb : w.heap[b]? = some (.cells (bytesV Z) T (0, 0))) (hZ : Z.length = N) (hB : Bytes w v l) (hl : l.length ≤ N)
    (h : ∀ w', w'.heap[b]? = some (.cells (bytesV (l ++ Z.drop l.length)) T (0, 0)) → w.grownBy w' (some b) → wpList P ops Q rest (a.put o.dst (goInt l.length)) w') : wpList P ops Q (o :: rest) a w := by
  obtain ⟨w', hr, k1, k2⟩ := copy_bytes (P := P) (ty := o.type) (sT := u) hu hs hb hZ hB hl
  refine wpList_plain hgd fun K hK => ?_
  unfold Oper.wp execOp
  simp only [ho, resolve, invoke, builtin, Sem.run_bind, Sem.run_pure, Result.andThen_ok, List.map_toArray, List.map_cons, List.map_nil, hd, hx, hr]
  exact hK _ _ (h w' k1 k2)
end
end Go.Proofs.YtgdnndapmcjoeaaDoor
namespace Go.Proofs.YtgdnndapmcjoeaaDoor
open Go.RowKit
set_option maxRecDepth 100000 in
set_option maxHeartbeats 1000000 in
theorem masked_any (b : List Nat) (hb : b.length = 64) (hlt : ∀ x ∈ b, x < 256) (c : Nat) (hc : c < 256) (w : World) :
    Calls Tryd.prog 58 #[.agg (bytesV b), .int .u8 c] w fun e w' => e = .returned (.slice (some ⟨w.heap.size, 0, none⟩) 64 64) ∧ w.grownBy w' none ∧ w'.heap[w.heap.size]? = some (.cells (bytesV (Hm.mask c b)) 112 (0, 0)) := by
  obtain ⟨V, hV⟩ : ∃ V, V = bytesV b := ⟨_, rfl⟩
  have i64 : Hid ((Tryd.prog.info? 112).map (·.size) = some V.size) := by rw [hV, bytesV_size, hb]; exact Lib.hid (by kernel_rfl)
  rw [← hV]
  have T0 : Hid ((w.alloc (.cells V 112)).heap[w.heap.size]? = some (.cells (bytesV (half c b 0)) 112 (0, 0))) := Lib.hid (by rw [show half c b 0 = b by simp [half, Hm.mask], ← hV]; exact alloc_at _ _)
  have Hb := Lib.hid hb
  have Hlt := Lib.hid hlt
  clear hV hb hlt
  go_enter Tryd.func58, Tryd.ntmps58
  go_wp2
  go_loopw [6] (fun i wr => ∃ k : Nat, k ≤ 64 ∧ i = .int .i64 k ∧ w.grownBy wr none ∧ wr.heap[w.heap.size]? = some (.cells (bytesV (half c b k)) 112 (0, 0))) (fun i _ => 64 - (intOf i).toNat)
  case atStart => exact ⟨0, by omega, rfl, World.grownBy_alloc _ _ _, T0.out⟩
  case round =>
    obtain ⟨k, hk, rfl, hg, hB⟩ := hrel
    by_cases hk64 : k < 64
    · have hkb : k < b.length := by rw [Hb.out]; exact hk64
      have c0 := cell_blk hB k (half_at c b k hkb)
      have f0 := free_blk hB k
      have hx256 : b.getD k 0 < 256 := getD_lt' Hlt.out k
      have hxor := u8_xor_nat (b.getD k 0) c hx256 hc
      have HN : Hid ((wr.setCell ⟨w.heap.size, k, none⟩ (.int .u8 ((b.getD k 0 ^^^ c : Nat) : Int))).heap[w.heap.size]? = some (.cells (bytesV (half c b (k + 1))) 112 (0, 0))) := Lib.hid (by rw [setCell_heap hB, half_set c b k hkb])
      have HG := Lib.hid hg
      clear hB hg hkb
      generalize b.getD k 0 = x at *
      go_wp2
      go_roundw
      case rel => exact ⟨k + 1, by omega, by go_num, grown_set HG.out (.inl (Nat.le_refl _)) _, HN.out⟩
      case measure => simp [intOf]; omega
    · obtain rfl : k = 64 := by omega
      have HG := Lib.hid hg
      have HB : Hid (wr.heap[w.heap.size]? = some (.cells (bytesV (Hm.mask c b)) 112 (0, 0))) := Lib.hid (by rw [hB]; congr 3; rw [← Hb.out]; exact half_full c b)
      clear hB hg
      go_wp2
      go_ret
      exact ⟨rfl, HG.out, HB.out⟩
end Go.Proofs.YtgdnndapmcjoeaaDoor
namespace Go.Proofs.YtgdnndapmcjoeaaDoor
open Go.RowKit
def fig (n : Nat) : Nat := if n < 10 then 48 + n else 87 + n
def hexL : List Nat → List Nat
  | [] => []
  | b :: r => fig (b / 16) :: fig (b % 16) :: hexL r
theorem hexL_append (a b : List Nat) : hexL (a ++ b) = hexL a ++ hexL b := by
  induction a with
  | nil => rfl
  | cons x r ih => simp [hexL, ih]
theorem hexL_len (l : List Nat) : (hexL l).length = 2 * l.length := by
  induction l with
  | nil => rfl
  | cons x r ih => simp [hexL, ih]; omega
theorem fig_lt {n : Nat} (h : n < 16) : fig n < 256 := by unfold fig; split <;> omega
theorem hexL_lt {l : List Nat} (h : ∀ x ∈ l, x < 256) : ∀ x ∈ hexL l, x < 256 := by
  induction l with
  | nil => intro x hx; simp [hexL] at hx
  | cons y r ih =>
    intro x hx
    have hy := h y (by simp)
    simp only [hexL, List.mem_cons] at hx
    rcases hx with rfl | rfl | hx
    · exact fig_lt (by omega)
    · exact fig_lt (by omega)
    · exact ih (fun z hz => h z (by simp [hz])) x hx
theorem hexL_take {l : List Nat} {k : Nat} (h : k < l.length) : hexL (l.take (k + 1)) = hexL (l.take k) ++ [fig (l.getD k 0 / 16), fig (l.getD k 0 % 16)] := by
  rw [List.take_add_one, List.getElem?_eq_getElem h, hexL_append]
  simp [hexL, List.getD_eq_getElem?_getD, List.getElem?_eq_getElem h]
def figS : ByteArray := ⟨#[48, 49, 50, 51, 52, 53, 54, 55, 56, 57, 97, 98, 99, 100, 101, 102]⟩
theorem figS_at (w : World) (x : Nat) (hx : x < 16) (k : IntKind) : (Instr.index 9 (.string figS) (.int k (x : Int))).run Tryd.prog w = .ok (.int .u8 (fig x : Nat)) w := by
  rw [run_index_string w _ figS k x Tryd.underlying9, dif_pos ⟨by omega, by show (x : Int) < 16; omega⟩]
  congr 2
  match x, hx with
  | 0, _ => rfl
  | 1, _ => rfl
  | 2, _ => rfl
  | 3, _ => rfl
  | 4, _ => rfl
  | 5, _ => rfl
  | 6, _ => rfl
  | 7, _ => rfl
  | 8, _ => rfl
  | 9, _ => rfl
  | 10, _ => rfl
  | 11, _ => rfl
  | 12, _ => rfl
  | 13, _ => rfl
  | 14, _ => rfl
  | 15, _ => rfl
  | n + 16, h => omega
def zeros64 : Array Value := bytesV (List.replicate 64 0)
/-- The world in Text's loop: the box, the text's room. -/
structure TxtW (w wr : World) (d done : List Nat) : Prop where
  grown : w.grownBy wr none
  blk : wr.heap[w.heap.size + 1]? = some (.cells (bytesV (done ++ List.replicate (64 - done.length) 0)) 112 (0, 0))
theorem TxtW.set {w wr : World} {d done : List Nat} (h : TxtW w wr d done) (hd : done.length < 64) (x : Nat) : TxtW w (wr.setCell ⟨w.heap.size + 1, done.length, none⟩ (.int .u8 (x : Int))) d (done ++ [x]) :=
  ⟨grown_set h.grown (.inl (by show w.heap.size ≤ w.heap.size + 1; omega)) _, by rw [setCell_heap h.blk, bytesV_set 64 done x hd]⟩
set_option maxRecDepth 100000 in
set_option maxHeartbeats 1000000 in
theorem text_any (d : List Nat) (hd : d.length = 32) (hlt : ∀ x ∈ d, x < 256) (w : World) :
    Calls Tryd.prog 48 #[.agg (bytesV d)] w fun e w' => e = .returned (.string (strOf (hexL d))) ∧ w.grownBy w' none := by
  obtain ⟨V, hV⟩ : ∃ V, V = bytesV d := ⟨_, rfl⟩
  have hz64 : ∀ w, (zeroValue 112).run Tryd.prog w = .ok (.agg zeros64) w := fun _ => by kernel_rfl
  have hix : ∀ k : Nat, k < 32 → ∀ W, (Instr.index 64 (.agg V) (.int .i64 (k : Int))).run Tryd.prog W = .ok (.int .u8 (d.getD k 0 : Nat)) W := fun k hk W => by
    rw [hV]
    exact run_index_agg W _ 5 32 _ _ k _ Tryd.underlying64 (fun _ => by kernel_rfl) (fun _ => by kernel_rfl) hk (bytesV_at d k (by omega))
  have i32 : Hid ((Tryd.prog.info? 64).map (·.size) = some V.size) := by rw [hV, bytesV_size, hd]; exact Lib.hid (by kernel_rfl)
  rw [← hV]
  have HV := Lib.hid hV
  have HIx := Lib.hid hix
  have Hlt := Lib.hid hlt
  have Hd := Lib.hid hd
  have T0 : Hid (TxtW w ((w.alloc (.cells V 64)).alloc (.cells zeros64 112)) d []) := Lib.hid ⟨grown_alloc (World.grownBy_alloc _ _ _) _, alloc2_new _ _ _⟩
  clear hV hix hlt hd
  go_enter Tryd.func48, Tryd.ntmps48
  go_wp2_with (refine wpList_load_row (by rfl) 64 (.tmp 1) (by rfl) w.heap.size (by rfl) _ V (0, 0) _ (alloc2_old _ _ _) Tryd.underlying64 (by rfl) i32.out ?_)
  go_loopw [7] (fun i wr => ∃ k : Nat, k ≤ 32 ∧ i = .int .i64 k ∧ TxtW w wr d (hexL (d.take k))) (fun i _ => 32 - (intOf i).toNat)
  case atStart => exact ⟨0, by omega, rfl, by simpa [hexL] using T0.out⟩
  case round =>
    obtain ⟨k, hk, rfl, hT⟩ := hrel
    have HT := Lib.hid hT
    by_cases hk32 : k < 32
    · have hixk := HIx.out k hk32
      obtain ⟨x, hx⟩ : ∃ x, x = d.getD k 0 := ⟨_, rfl⟩
      rw [← hx] at hixk
      have hx256 : x < 256 := by rw [hx]; exact getD_lt' Hlt.out k
      have hand : bits .and .u8 (x : Int) 15 = ((x % 16 : Nat) : Int) := by
        have := u8_and_nat x 15 hx256 (by decide)
        rw [show x &&& 15 = x % 16 from Nat.and_two_pow_sub_one_eq_mod x 4] at this
        exact this
      have F1 : ∀ W, (Instr.index 9 (.string ⟨#[48, 49, 50, 51, 52, 53, 54, 55, 56, 57, 97, 98, 99, 100, 101, 102]⟩) (.int .u8 ((x : Int) / 16))).run Tryd.prog W = .ok (.int .u8 (fig (x / 16) : Nat)) W := fun W => by
        rw [show (x : Int) / 16 = ((x / 16 : Nat) : Int) by simp]
        exact figS_at W (x / 16) (by omega) .u8
      have F2' : ∀ W, (Instr.index 9 (.string ⟨#[48, 49, 50, 51, 52, 53, 54, 55, 56, 57, 97, 98, 99, 100, 101, 102]⟩) (.int .u8 (bits .and .u8 (x : Int) 15))).run Tryd.prog W = .ok (.int .u8 (fig (x % 16) : Nat)) W := fun W => by
        rw [hand]
        exact figS_at W (x % 16) (by omega) .u8
      have F3 : ∀ W, (Instr.index 9 (.string ⟨#[48, 49, 50, 51, 52, 53, 54, 55, 56, 57, 97, 98, 99, 100, 101, 102]⟩) (.int .u8 ((x % 16 : Nat) : Int))).run Tryd.prog W = .ok (.int .u8 (fig (x % 16) : Nat)) W := fun W => figS_at W (x % 16) (by omega) .u8
      have F4 : ∀ W, (Instr.index 9 (.string ⟨#[48, 49, 50, 51, 52, 53, 54, 55, 56, 57, 97, 98, 99, 100, 101, 102]⟩) (.int .u8 ((x : Int) % 16))).run Tryd.prog W = .ok (.int .u8 (fig (x % 16) : Nat)) W := fun W => by
        rw [show (x : Int) % 16 = ((x % 16 : Nat) : Int) by simp]
        exact figS_at W (x % 16) (by omega) .u8
      have hlen : (hexL (d.take k)).length = 2 * k := by rw [hexL_len, List.length_take, Hd.out]; omega
      have T1 := hT.set (by rw [hlen]; omega) (fig (x / 16))
      have T2 := T1.set (by rw [List.length_append, hlen]; simp; omega) (fig (x % 16))
      rw [hlen] at T1 T2
      have hl1 : (hexL (d.take k) ++ [fig (x / 16)]).length = 2 * k + 1 := by rw [List.length_append, hlen]; rfl
      rw [hl1] at T2
      have HH : Hid (hexL (d.take (k + 1)) = hexL (d.take k) ++ [fig (x / 16)] ++ [fig (x % 16)]) := Lib.hid (by rw [hexL_take (by rw [Hd.out]; exact hk32), ← hx]; simp)
      have c0 := cell_blk hT.blk (2 * k) (by have := bytesV_zero 64 (hexL (d.take k)) (by omega); rwa [hlen] at this ⊢)
      have f0 := free_blk hT.blk (2 * k)
      have c1 := cell_blk T1.blk (2 * k + 1) (by have := bytesV_zero 64 (hexL (d.take k) ++ [fig (x / 16)]) (by omega); rwa [hl1] at this ⊢)
      have f1 := free_blk T1.blk (2 * k + 1)
      have HT2 := Lib.hid T2
      clear T1 T2 hT hlen hl1 hx hand F2'
      generalize fig (x / 16) = y1 at *
      generalize fig (x % 16) = y2 at *
      go_wp2
      go_roundw
      case rel => exact ⟨k + 1, by omega, by go_num, by rw [HH.out]; exact HT2.out⟩
      case measure => simp [intOf]; omega
    · obtain rfl : k = 32 := by omega
      have hb := hT.blk
      rw [show d.take 32 = d by rw [List.take_of_length_le (by rw [Hd.out]; exact Nat.le_refl _)]] at hb
      have hl : (hexL d).length = 64 := by rw [hexL_len, Hd.out]
      rw [hl] at hb
      have hBy : Bytes wr (.slice (some ⟨w.heap.size + 1, 0, none⟩) 64 64) (hexL d) := by
        have := Bytes.lit (w := wr) (g := w.heap.size + 1) (l := hexL d) (t := 112) (fr := (0, 0)) (by have := hb; simpa [bytesV, cellsL] using this) (hexL_lt Hlt.out)
        rwa [hl] at this
      have hcv := conv_bytes (P := Tryd.prog) hBy 22 5 9 Tryd.underlying22 Tryd.underlying5 Tryd.underlying9
      clear hT hb hl hBy
      go_wp2
      go_ret
      exact ⟨rfl, HT.out.grown⟩
end Go.Proofs.YtgdnndapmcjoeaaDoor
namespace Go.Proofs.YtgdnndapmcjoeaaDoor
open Go.RowKit
/-- A row told by its bytes, its block not this one. -/
theorem FrW.step2 {w b c : World} {v v' : Value} {l l' : List Nat} {n' : Nat} {xs : List Value} {L : Nat} (h : FrW w b v l) (ho : c.ownsRow w.heap.size 5 1 v' n' xs) (hg : b.grownBy c v.ownBlock) (hsh : v'.ownBlock = v.ownBlock ∨ v'.ownBlock = some b.heap.size)
    (e : xs = cellsL l') (hL : v.ownBlock ≠ some L) (hb : L < b.heap.size) : FrW w c v' l' ∧ v'.ownBlock ≠ some L :=
  ⟨h.step ho hg e, by
    rcases hsh with h1 | h1
    · rw [h1]; exact hL
    · rw [h1]; intro e; simp at e; omega⟩
set_option maxRecDepth 100000 in
set_option maxHeartbeats 1000000 in
theorem refText_any (v : Value) (l : List Nat) (w : World) (hB : Bytes w v l) (hl : l.length ≤ 500000000) :
    Calls Tryd.prog 51 #[v] w fun e w' => e = .returned (.string (strOf (hexL l))) ∧ w.grownBy w' none := by
  have HB := Lib.hid hB
  obtain ⟨hlt, va, vb, vo, vc, rfl, hvc, ha, hcell⟩ := hB
  obtain ⟨n, hn⟩ : ∃ n, n = l.length := ⟨_, rfl⟩
  have HN := Lib.hid hn
  rw [← hn] at ha hcell hl hvc ⊢
  have Ha := Lib.hid ha
  have Hcell := Lib.hid hcell
  have Hlt := Lib.hid hlt
  clear hn ha hcell hlt HB
  have F0 : Hid (FrW w (w.alloc (.cells #[] 5)) (.slice (some ⟨w.heap.size, 0, none⟩) 0 0) []) := Lib.hid ⟨World.grownBy_alloc _ _ _, ownsRow_lit (alloc_at w _) (Nat.le_refl _) (by simp)⟩
  go_enter Tryd.func51, Tryd.ntmps51
  go_wp2
  go_loopw [3, 11] (fun x i wr => ∃ k : Nat, k ≤ n ∧ i = .int .i64 k ∧ FrW w wr x (hexL (l.take k))) (fun _ i _ => n - (intOf i).toNat)
  case atStart => exact ⟨0, Nat.zero_le _, rfl, by simpa [hexL] using F0.out⟩
  case round =>
    obtain ⟨k, hk, rfl, hF⟩ := hrel
    have HF := Lib.hid hF
    clear hF
    by_cases hkn : k < n
    · obtain ⟨rfl, ha2⟩ := Ha.out (by omega)
      obtain ⟨x, hx⟩ : ∃ x, x = l.getD k 0 := ⟨_, rfl⟩
      have hc1 : wr.cell? ⟨vb, vo + k, none⟩ = some (.int .u8 (x : Int)) := by rw [World.cell?_of_block (HF.out.grown.block vb ha2 (by simp)), hx]; exact Hcell.out k hkn
      have hx256 : x < 256 := by rw [hx]; exact getD_lt' Hlt.out k
      have HT : Hid (hexL (l.take (k + 1)) = hexL (l.take k) ++ [fig (x / 16), fig (x % 16)]) := Lib.hid (by rw [hx]; exact hexL_take (by rw [← HN.out]; exact hkn))
      have he : #[Value.int .u8 ((x : Int) / 16), Value.int .u8 ((x : Int) % 16)] = (cellsL [x / 16, x % 16]).toArray := by simp [cellsL]
      have HE := Lib.hid he
      have hdone : (hexL (l.take k)).length ≤ 1000000000 := by rw [hexL_len, List.length_take]; omega
      generalize hexL (l.take k) = X at *
      clear hx he
      go_wp2
      obtain ⟨wo, rfl⟩ : ∃ wo : World, wo = wr := ⟨_, rfl⟩
      have L0 := alloc_at wo (.cells (cellsL [x / 16, x % 16]).toArray 5)
      rw [← HE.out] at L0
      have hno : (u3 : Value).ownBlock ≠ some wo.heap.size := fun e => by have := (HF.out.own.lt _ e).2; omega
      have HL0 := Lib.hid L0
      have HNO := Lib.hid hno
      clear L0 hno
      go_loopw [3, 21] (fun y i wr => ∃ j : Nat, j ≤ 2 ∧ i = .int .i64 j ∧ FrW w wr y (X ++ [fig (x / 16), fig (x % 16)].take j) ∧ y.ownBlock ≠ some wo.heap.size ∧ wr.heap[wo.heap.size]? = some (.cells (cellsL [x / 16, x % 16]).toArray 5 (0, 0))) (fun _ i _ => 2 - (intOf i).toNat)
      case atStart => exact ⟨0, by omega, rfl, by simpa using HF.out.alloc _, HNO.out, by rw [← HE.out]; exact HL0.out⟩
      case round =>
        obtain ⟨j, hj, rfl, hF2, hne, hblk⟩ := hrel
        have HF2 := Lib.hid hF2
        have HNE := Lib.hid hne
        have HBK := Lib.hid hblk
        by_cases hj2 : j < 2
        · obtain ⟨y, hy⟩ : ∃ y, y = [x / 16, x % 16].getD j 0 := ⟨_, rfl⟩
          have hy16 : y < 16 := by
            rw [hy]
            match j, hj2 with
            | 0, _ => show x / 16 < 16; omega
            | 1, _ => show x % 16 < 16; omega
          have hc2 : wr.cell? ⟨wo.heap.size, j, none⟩ = some (.int .u8 (y : Int)) := by
            rw [hy]
            exact cell_blk hblk j (by rw [List.getElem?_toArray]; exact cellsL_at _ j (by simpa using hj2))
          have HTK : Hid (X ++ [fig (x / 16), fig (x % 16)].take (j + 1) = X ++ [fig (x / 16), fig (x % 16)].take j ++ [fig y]) := Lib.hid (by
            rw [hy]
            match j, hj2 with
            | 0, _ => simp
            | 1, _ => simp)
          have hlen : (X ++ [fig (x / 16), fig (x % 16)].take j).length ≤ 1000000002 := by rw [List.length_append, List.length_take]; omega
          have hLs := blk_lt hblk
          have HLs := Lib.hid hLs
          generalize X ++ [fig (x / 16), fig (x % 16)].take j = Z at *
          clear hF2 hne hblk hy hLs
          by_cases hy10 : y < 10
          · have hfe : #[Value.int .u8 (48 + (y : Int))] = (cellsL [fig y]).toArray := by simp [cellsL, fig, hy10]
            have HFE := Lib.hid hfe
            clear hfe
            go_wp2_with (at_builtin; refine wpList_appB2 (by rfl) (.tmp 27) (.tmp 30) 22 (by rfl) w.heap.size 5 (.int .u8 0) 1 Tryd.underlying22 (by kernel_rfl) rfl (by decide) _ Z.length (cellsL Z) (by rfl) (HF2.out.own.alloc _) (.slice (some ⟨wr.heap.size, 0, none⟩) 1 1) [fig y] (by rfl) (by rw [HFE.out]; exact Bytes.lit (alloc_at wr _) (by simp; exact fig_lt hy16)) (Whole0.some _ _ _) (by show Z.length + 1 ≤ _; omega) (by have := HF2.out.le; rw [alloc_size]; omega) ?_; intro v3 w3 ho3 hg3 hsh3; have HH := Lib.hid ((HF2.out.alloc _).step2 (l' := Z ++ [fig y]) ho3 hg3 hsh3 (cellsL_append _ _).symm HNE.out (by rw [alloc_size]; have := HLs.out; omega)); have HB3 := Lib.hid ((hg3.block _ (by rw [alloc_size]; have := HLs.out; omega) (fun e => HNE.out e.symm)).trans ((alloc_old wr _ _ HLs.out).trans HBK.out)); clear ho3 hg3 hsh3)
            go_roundw
            case rel => exact ⟨j + 1, by omega, by go_num, by rw [HTK.out]; exact HH.out.1, HH.out.2, HB3.out⟩
            case measure => simp [intOf]; omega
          · have hfe : #[Value.int .u8 (97 + (y : Int) - 10)] = (cellsL [fig y]).toArray := by simp [cellsL, fig, hy10]; omega
            have HFE := Lib.hid hfe
            clear hfe
            go_wp2_with (at_builtin; refine wpList_appB2 (by rfl) (.tmp 32) (.tmp 36) 22 (by rfl) w.heap.size 5 (.int .u8 0) 1 Tryd.underlying22 (by kernel_rfl) rfl (by decide) _ Z.length (cellsL Z) (by rfl) (HF2.out.own.alloc _) (.slice (some ⟨wr.heap.size, 0, none⟩) 1 1) [fig y] (by rfl) (by rw [HFE.out]; exact Bytes.lit (alloc_at wr _) (by simp; exact fig_lt hy16)) (Whole0.some _ _ _) (by show Z.length + 1 ≤ _; omega) (by have := HF2.out.le; rw [alloc_size]; omega) ?_; intro v3 w3 ho3 hg3 hsh3; have HH := Lib.hid ((HF2.out.alloc _).step2 (l' := Z ++ [fig y]) ho3 hg3 hsh3 (cellsL_append _ _).symm HNE.out (by rw [alloc_size]; have := HLs.out; omega)); have HB3 := Lib.hid ((hg3.block _ (by rw [alloc_size]; have := HLs.out; omega) (fun e => HNE.out e.symm)).trans ((alloc_old wr _ _ HLs.out).trans HBK.out)); clear ho3 hg3 hsh3)
            go_roundw
            case rel => exact ⟨j + 1, by omega, by go_num, by rw [HTK.out]; exact HH.out.1, HH.out.2, HB3.out⟩
            case measure => simp [intOf]; omega
        · obtain rfl : j = 2 := by omega
          clear hF2 hne hblk
          go_wp2
          go_roundw
          case rel => exact ⟨k + 1, by omega, by go_num, by rw [HT.out]; exact HF2.out⟩
          case measure => simp [intOf]; omega
    · obtain rfl : k = n := by omega
      have hF := HF.out
      rw [List.take_of_length_le (by rw [← HN.out]; exact Nat.le_refl _)] at hF
      have hcv := conv_bytes (P := Tryd.prog) (Bytes.own hF.own (hexL_lt Hlt.out)) 22 5 9 Tryd.underlying22 Tryd.underlying5 Tryd.underlying9
      have HF' := Lib.hid hF.grown
      clear hF
      go_wp2
      go_ret
      exact ⟨rfl, HF'.out⟩
end Go.Proofs.YtgdnndapmcjoeaaDoor
namespace Go.Proofs.YtgdnndapmcjoeaaDoor
open Go.RowKit
theorem hexL_take2 (l : List Nat) : ∀ k, hexL (l.take k) = (hexL l).take (2 * k) := by
  induction l with
  | nil => intro k; simp [hexL]
  | cons a r ih =>
    intro k
    match k with
    | 0 => simp [hexL]
    | k + 1 =>
      rw [show 2 * (k + 1) = 2 * k + 1 + 1 by omega]
      simp [hexL, ih k]
theorem strOf_take (l : List Nat) (n : Nat) : (strOf l).extract 0 n = strOf (l.take n) := by
  apply ByteArray.ext
  simp [strOf, ByteArray.data_extract, List.map_take]
theorem id_slice (d : List Nat) (hd : d.length = 32) (X : ByteArray) (hX : X = strOf (hexL d)) (W : World) : (Instr.slice 9 (.string X) none (some (.int .i64 32)) none).run Tryd.prog W = .ok (.string (strOf (hexL (d.take 16)))) W := by
  have hs : X.size = 64 := by rw [hX, strOf_size, hexL_len, hd]
  rw [run_slice_string_to_if (P := Tryd.prog) W 9 X .i64 32 Tryd.underlying9, if_pos (by rw [hs]; decide)]
  rw [hexL_take2, ← strOf_take, hX]
  rfl
theorem id_slice' (d : List Nat) (hd : d.length = 32) (X : ByteArray) (hX : X = strOf (hexL d)) (W : World) : (Instr.sliceAt 9 (.string X) none (some (.int .i64 32)) none).run Tryd.prog W = .ok (.string (strOf (hexL (d.take 16)))) W := by
  rw [run_sliceAt_string _ _ _ _ _ _ Tryd.underlying9]
  exact id_slice d hd X hX W
end Go.Proofs.YtgdnndapmcjoeaaDoor
namespace Go.Proofs.YtgdnndapmcjoeaaDoor
open Go.RowKit
/-- Behind a copy into a block of the call's own. -/
theorem grown_copy {w w3 w5 : World} {o : Obj} (h3 : w.grownBy w3 none) (h5 : (w3.alloc o).grownBy w5 (some w3.heap.size)) : w.grownBy w5 none :=
  grown_forget (grown_alloc h3 o) h3.size h5
theorem old_copy {w3 w5 : World} {o : Obj} {b : Nat} {x : Option Obj} (hb : b < w3.heap.size) (h : w3.heap[b]? = x) (h5 : (w3.alloc o).grownBy w5 (some w3.heap.size)) : w5.heap[b]? = x :=
  (h5.block b (by rw [alloc_size]; omega) (fun e => by have := Option.some.inj e; omega)).trans ((alloc_old _ _ _ hb).trans h)
set_option maxRecDepth 100000 in
set_option maxHeartbeats 1000000 in
theorem stretch_any (v : Value) (k : List Nat) (w : World) (hB : Bytes w v k) (hk : k.length < 1152921504606846000) (hL : Laid w) :
    Calls Tryd.prog 55 #[v] w fun e w' => e = .returned (.agg (bytesV (Hm.blk k))) ∧ w.grownBy w' none := by
  have hz64 : ∀ w, (zeroValue 112).run Tryd.prog w = .ok (.agg zeros64) w := fun _ => by kernel_rfl
  have hz32 := zeros32_at w
  have hzl : Hid ((List.replicate 64 0 : List Nat).length = 64) := Lib.hid (List.length_replicate ..)
  obtain ⟨V, hV⟩ : ∃ V, V = bytesV (Hm.blk k) := ⟨_, rfl⟩
  have hVl : V.size = 64 := by rw [hV, bytesV_size, Hm.blk_len]
  have HI1 : Hid ((Tryd.prog.info? 112).map (·.size) = some V.size) := by rw [hVl]; exact Lib.hid (by kernel_rfl)
  have HI2 : Hid (zeros64.size = V.size) := by rw [hVl]; exact Lib.hid (by rw [zeros64, bytesV_size, hzl.out])
  have HO : Hid (V.all (·.oneCell') = true) := by rw [hV]; exact Lib.hid (bytesV_one _)
  rw [← hV]
  have HB := Lib.hid hB
  obtain ⟨hlt, va, vb, vo, vc, rfl, hvc, ha, hcell⟩ := hB
  obtain ⟨m, hm⟩ : ∃ m, m = k.length := ⟨_, rfl⟩
  rw [← hm] at hvc hk HB ⊢
  by_cases hl : 64 < m
  · have hk0 : Hm.key0 k = Sha.sum k := Hm.key0_long (by rw [← hm]; exact hl)
    have hV2 : bytesV (Sha.sum k ++ (List.replicate 64 0).drop (Sha.sum k).length) = V := by rw [hV, Hm.blk, hk0, List.drop_replicate]
    obtain ⟨D, hD⟩ : ∃ D, D = bytesV (Sha.sum k) := ⟨_, rfl⟩
    have hDl : D.size = 32 := by rw [hD, bytesV_size, Sha.sum_len]
    have HI3 : Hid ((Tryd.prog.info? 64).map (·.size) = some D.size) := by rw [hDl]; exact Lib.hid (by kernel_rfl)
    have HI4 : Hid (zeros32.size = D.size) := by rw [hDl]; exact Lib.hid rfl
    have HO1 : Hid (D.all (·.oneCell') = true) := by rw [hD]; exact Lib.hid (bytesV_one _)
    have HS : Hid (Calls Tryd.prog 60 #[.slice (some ⟨w.heap.size + 1, 0, none⟩) 1 1] ((w.alloc (.cells zeros64 112)).alloc (.cells #[.slice va m vc] 22)) fun e w' => e = .returned (.agg D) ∧ w.grownBy w' none ∧ w'.heap[w.heap.size]? = some (.cells zeros64 112 (0, 0))) := Lib.hid (by
      have e : [k].flatten = k := by simp
      obtain ⟨W1, hW1⟩ : ∃ W1, W1 = (w.alloc (.cells zeros64 112)).alloc (.cells #[.slice va m vc] 22) := ⟨_, rfl⟩
      have gW : w.grownBy W1 none := by rw [hW1]; exact grown_alloc (World.grownBy_alloc _ _ _) _
      have b0 : W1.heap[w.heap.size]? = some (.cells zeros64 112 (0, 0)) := by rw [hW1]; exact alloc2_old _ _ _
      have b1 : W1.heap[w.heap.size + 1]? = some (.cells #[.slice va m vc] 22 (0, 0)) := by rw [hW1]; exact alloc2_new _ _ _
      rw [← hW1]
      refine (psum_any [k] (some ⟨w.heap.size + 1, 0, none⟩) (w.heap.size + 1) 0 1 1 rfl W1 (fun _ => ⟨rfl, blk_lt b1⟩) (fun i hi => ?_) (by rw [e, ← hm]; exact hk) (by decide) (hL.grown gW (by simp) (by simp))).mono ?_
      · match i, hi with
        | 0, _ => exact ⟨.slice va m vc, cell_blk b1 0 rfl, HB.out.grown gW⟩
      · rintro e' w' ⟨rfl, hg'⟩
        exact ⟨by rw [e, hD], grown_trans gW hg', (hg'.block _ (blk_lt b0) (by simp)).trans b0⟩)
    have HD := Lib.hid hD
    have HV2 := Lib.hid hV2
    clear hV hk0 hV2 hD hDl hVl hm hlt ha hcell hL
    go_enter Tryd.func55, Tryd.ntmps55
    go_wp2_with (first
      | (go_at_call 60; refine HS.out.mono ?_; rintro e w2 ⟨rfl, hg2, hb2⟩; have G2 := Lib.hid hg2; have B2 := Lib.hid hb2; have Z2 := Lib.hid (alloc_at w2 (.cells zeros32 64)); clear hg2 hb2)
      | (refine wpList_store_row (by rfl) 64 (.tmp 3) (.tmp 10) (by rfl) w2.heap.size D (by rfl) (by rfl) _ _ Z2.out HI3.out HI4.out HO1.out ?_; obtain ⟨W3, hW3⟩ : ∃ W3, W3 = (w2.alloc (.cells zeros32 64)).setRow w2.heap.size D := ⟨_, rfl⟩; rw [← hW3]; have g23 : Hid (w2.grownBy W3 none) := Lib.hid (by rw [hW3]; exact grown_setRow (World.grownBy_alloc _ _ _) (Nat.le_refl _) _); have b3 : Hid (W3.heap[w2.heap.size]? = some (.cells D 64 (0, 0))) := Lib.hid (by rw [hW3]; exact setRow_heap _ _ _ _ _ _ Z2.out); clear hW3)
      | (refine wpList_copyB (by rfl) (.tmp 12) (.tmp 13) 22 22 (by rfl) Tryd.underlying22 (by kernel_rfl) (b := W3.heap.size) (N := 64) (Z := List.replicate 64 0) (l := Sha.sum k) (T := 112) (v := .slice (some ⟨w2.heap.size, 0, none⟩) 32 32) (by rfl) (by rfl) (alloc_at W3 _) hzl.out (by have hB5 := Bytes.lit (w := W3.alloc (.cells zeros64 112)) (g := w2.heap.size) (l := Sha.sum k) (t := 64) (fr := (0, 0)) (by rw [alloc_old _ _ _ (blk_lt b3.out), b3.out, HD.out]; rfl) (sum_lt' k); rw [Sha.sum_len] at hB5; exact hB5) (by rw [Sha.sum_len]; decide) ?_; intro w5 hb5 hg5; rw [HV2.out] at hb5; have B5 := Lib.hid hb5; have G5 := Lib.hid (grown_copy (grown_trans G2.out g23.out) hg5); have X5 := Lib.hid (old_copy (Nat.lt_of_lt_of_le (blk_lt B2.out) g23.out.size) ((g23.out.block _ (blk_lt B2.out) (by simp)).trans B2.out) hg5); clear hb5 hg5)
      | (refine wpList_load_row (by rfl) 112 (.tmp 4) (by rfl) W3.heap.size (by rfl) _ V (0, 0) _ B5.out Tryd.underlying112 (by rfl) HI1.out ?_)
      | (refine wpList_store_row (by rfl) 112 (.tmp 2) (.tmp 15) (by rfl) w.heap.size V (by rfl) (by rfl) _ _ X5.out HI1.out HI2.out HO.out ?_))
    refine bodyPost_ret (v := .agg V) ?_ rfl ⟨rfl, grown_setRow G5.out (Nat.le_refl _) _⟩
    exact results_cell_row Tryd.results55 _ _ w.heap.size _ _ (0, 0) _ rfl (setRow_heap _ _ _ V _ _ X5.out) Tryd.underlying112 rfl HI1.out
  · have hk0 : Hm.key0 k = k := Hm.key0_short (by rw [← hm]; exact hl)
    have hV2 : bytesV (k ++ (List.replicate 64 0).drop k.length) = V := by rw [hV, Hm.blk, hk0, List.drop_replicate]
    have HV2 := Lib.hid hV2
    have Hm' := Lib.hid hm
    have B1 := Lib.hid (alloc2_old w (.cells zeros64 112) (.cells zeros64 112))
    have hml : m ≤ 64 := by omega
    clear hV hk0 hV2 hVl hm hlt ha hcell hL
    go_enter Tryd.func55, Tryd.ntmps55
    go_wp2_with (first
      | (refine wpList_copyB (by rfl) (.tmp 12) (.tmp 13) 22 22 (by rfl) Tryd.underlying22 (by kernel_rfl) (b := w.heap.size + 1) (N := 64) (Z := List.replicate 64 0) (l := k) (T := 112) (v := .slice va m vc) (by rfl) (by rfl) (alloc2_new w _ _) hzl.out (HB.out.grown (grown_alloc (World.grownBy_alloc _ _ _) _)) (by rw [← Hm'.out]; exact hml) ?_; intro w5 hb5 hg5; rw [HV2.out] at hb5; have B5 := Lib.hid hb5; have G5 := Lib.hid (grown_forget (grown_alloc (World.grownBy_alloc w _ none) _) (Nat.le_succ _) hg5); have X5 := Lib.hid ((hg5.block w.heap.size (by rw [alloc2_size]; omega) (fun e => by have := Option.some.inj e; omega)).trans B1.out); clear hb5 hg5)
      | (refine wpList_load_row (by rfl) 112 (.tmp 4) (by rfl) (w.heap.size + 1) (by rfl) _ V (0, 0) _ B5.out Tryd.underlying112 (by rfl) HI1.out ?_)
      | (refine wpList_store_row (by rfl) 112 (.tmp 2) (.tmp 15) (by rfl) w.heap.size V (by rfl) (by rfl) _ _ X5.out HI1.out HI2.out HO.out ?_))
    refine bodyPost_ret (v := .agg V) ?_ rfl ⟨rfl, grown_setRow G5.out (Nat.le_refl _) _⟩
    exact results_cell_row Tryd.results55 _ _ w.heap.size _ _ (0, 0) _ rfl (setRow_heap _ _ _ V _ _ X5.out) Tryd.underlying112 rfl HI1.out
end Go.Proofs.YtgdnndapmcjoeaaDoor
