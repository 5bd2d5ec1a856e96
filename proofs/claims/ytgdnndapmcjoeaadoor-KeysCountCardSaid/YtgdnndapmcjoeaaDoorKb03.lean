import Derived.Test.YtgdnndapmcjoeaaDoorKb02
import Derived.Laws.AppendOwnNone
import Derived.Laws.BytesArg
import Derived.Lib.AppendStr
namespace Go.Proofs.YtgdnndapmcjoeaaDoor
open Go.RowKit
def cellsL (l : List Nat) : List Value := l.map fun (x : Nat) => Value.int .u8 (x : Int)
theorem cellsL_len (l : List Nat) : (cellsL l).length = l.length := by simp [cellsL]
theorem cellsL_one (l : List Nat) : ∀ u ∈ cellsL l, u.oneCell' = true := by
  intro u hu
  simp only [cellsL, List.mem_map] at hu
  obtain ⟨x, _, rfl⟩ := hu
  rfl
theorem cellsL_append (a b : List Nat) : cellsL (a ++ b) = cellsL a ++ cellsL b := by simp [cellsL]
theorem cellsL_at (l : List Nat) (j : Nat) (h : j < l.length) : (cellsL l)[j]? = some (.int .u8 (l.getD j 0 : Nat)) := by simp [cellsL, h]
/-- The bytes of a text, and the text of bytes. -/
def strL (s : ByteArray) : List Nat := s.data.toList.map (·.toNat)
def strOf (l : List Nat) : ByteArray := ⟨(l.map UInt8.ofNat).toArray⟩
theorem strL_len (s : ByteArray) : (strL s).length = s.size := by rw [strL, List.length_map, Array.length_toList]; rfl
theorem strL_cells (s : ByteArray) : Lib.strCells s = cellsL (strL s) := by simp [Lib.strCells, cellsL, strL]
theorem strL_lt (s : ByteArray) : ∀ x ∈ strL s, x < 256 := by
  intro x hx
  simp only [strL, List.mem_map] at hx
  obtain ⟨b, _, rfl⟩ := hx
  exact b.toNat_lt
theorem strL_getD (s : ByteArray) (i : Nat) (h : i < s.size) : (s[i]'h).toNat = (strL s).getD i 0 := by
  have h' : i < s.data.size := h
  have e : s[i]'h = s.data[i]'h' := rfl
  rw [e, List.getD_eq_getElem?_getD, strL, List.getElem?_map, Array.getElem?_toList, Array.getElem?_eq_getElem h']
  rfl
theorem strOf_size (l : List Nat) : (strOf l).size = l.length := by rw [← strL_len, strL, List.length_map]; simp [strOf]
theorem strL_strOf {l : List Nat} (h : ∀ x ∈ l, x < 256) : strL (strOf l) = l := by
  simp only [strL, strOf, List.map_map]
  conv => rhs; rw [← List.map_id l]
  exact List.map_congr_left fun x hx => by
    have := h x hx
    simp
    omega
theorem strL_inj {s t : ByteArray} (h : strL s = strL t) : s = t := by
  obtain ⟨⟨a⟩⟩ := s
  obtain ⟨⟨b⟩⟩ := t
  simp only [strL] at h
  rw [List.map_inj_right (fun x y e => UInt8.toNat_inj.1 e)] at h
  rw [h]
theorem strOf_strL (s : ByteArray) : strOf (strL s) = s := strL_inj (strL_strOf (strL_lt s))
theorem str_beq (s t : ByteArray) : (s.toList == t.toList) = decide (strL s = strL t) := by
  rw [ByteArray.toList_eq, ByteArray.toList_eq, Bool.eq_iff_iff, beq_iff_eq, decide_eq_true_eq]
  simp only [strL]
  rw [List.map_inj_right (fun x y e => UInt8.toNat_inj.1 e)]
/-- A slice with no address has no room. -/
def Whole0 (v : Value) : Prop := ∀ n c, v = .slice none n c → n = 0 ∧ c = 0
section
variable {P : Program}
theorem conv_bytes {w : World} {v : Value} {l : List Nat} (h : Bytes w v l) (src e dst : TypeId) (hs : P.underlying src = some (.slice e)) (he : P.underlying e = some (.int .u8)) (hd : P.underlying dst = some .string) :
    (convert src dst v).run P w = .ok (.string (strOf l)) w := by
  obtain ⟨h1, a, sb, so, c, rfl, hc, ha, hcell⟩ := h
  have e1 : strOfNums (l.map fun (x : Nat) => (x : Int)) = strOf l := by simp [strOfNums, strOf]
  rcases Nat.eq_zero_or_pos l.length with h0 | h0
  · obtain rfl := List.eq_nil_of_length_eq_zero h0
    match a with
    | none => rw [run_convert_bytes_nil w src e hs he _ _ dst hd]; rfl
    | some ad =>
      have hl : (loadCells ad 0).run P w = .ok (([] : List Int).map (Value.int .u8)).toArray w := by
        have := run_loadCells_list (P := P) w ad [] (by simp)
        simpa using this
      rw [run_convert_bytes_string w src dst e _ _ c hs he hd]
      exact run_bytesToString w ad 0 c [] hl
  · obtain ⟨rfl, _⟩ := ha h0
    rw [← e1]
    exact run_convert_bytes_arg w src e hs he sb so l.length c _ (by simp) (fun i hi => by rw [hcell i hi]; simp [hi]) dst hd
theorem addr_addO (g o j : Nat) : (⟨g, o, none⟩ : Addr).add j = ⟨g, o + j, none⟩ := by
  unfold Addr.add
  split <;> simp_all
/-- 'append(s, x...)', x bytes that are somewhere. -/
theorem wpList_appB {w : World} {ops : Array Oper} {rest : List Oper} {o : Oper} {a : Act} {Q : Exit → Act → World → Prop} (hgd : o.guard = none) (s x : Operand) (t : TypeId)
    (ho : o.op = .call { callee := .builtin .append, args := #[s, x], argTypes := #[t, t] })
    (base : Nat) (e : TypeId) (z : Value) (bytes : Nat) (ht : P.underlying t = some (.slice e)) (hi : (P.info? e).map (fun i => (i.zero, i.size, i.bytes)) = some (some z, 1, bytes)) (hzs : z.cells.size = 1) (hby : bytes ≤ 64)
    (v : Value) (n : Nat) (xs : List Value) (hs : a.eval s = v) (hown : w.ownsRow base e 1 v n xs)
    (u : Value) (l : List Nat) (hx : a.eval x = u) (hB : Bytes w u l) (h0 : Whole0 u)
    (h63 : n + l.length ≤ 1099511627776) (hbase : base ≤ w.heap.size)
    (h : ∀ v' w', w'.ownsRow base e 1 v' (n + l.length) (xs ++ cellsL l) → w.grownBy w' v.ownBlock → wpList P ops Q rest (a.put o.dst v') w') : wpList P ops Q (o :: rest) a w := by
  obtain ⟨i, h1', h2', h3', h4'⟩ := info_parts hi
  obtain ⟨hl, ad, sb, so, c, rfl, hc, ha, hcell⟩ := hB
  match ad with
  | none =>
    obtain ⟨hn0, rfl⟩ := h0 _ _ rfl
    obtain rfl := List.eq_nil_of_length_eq_zero hn0
    refine wpList_append_own_none hgd s x t ho base e i 1 ht h1' v n xs hs hown hx (h v w ?_ (grown_refl _ _))
    simpa [cellsL] using hown
  | some ad =>
    refine wpList_append_own w hgd s x t ho base e i z 1 bytes ht h1' h2' h3' h4' hzs (by decide) v n xs hs hown ad l.length c (cellsL l) hx (by simp [cellsL]) ?_ (cellsL_one l) ?_ ?_ hbase (fun v' w' a1 a2 _ => h v' w' a1 a2)
    · intro j u' hj
      have hjl : j < l.length := by
        have := (List.getElem?_eq_some_iff.1 hj).1
        simpa [cellsL] using this
      obtain ⟨e1, _⟩ := ha (by omega)
      obtain rfl := Option.some.inj e1
      rw [addr_addO, hcell j hjl, ← cellsL_at l j hjl, hj]
    · unfold maxLen; omega
    · exact Nat.le_trans (Nat.mul_le_mul_left _ hby) (by omega)
/-- 'append(s, x...)', x a text. -/
theorem wpList_appS {w : World} {ops : Array Oper} {rest : List Oper} {o : Oper} {a : Act} {Q : Exit → Act → World → Prop} (hgd : o.guard = none) (s x : Operand) (t u : TypeId)
    (ho : o.op = .call { callee := .builtin .append, args := #[s, x], argTypes := #[t, u] })
    (base : Nat) (e : TypeId) (ht : P.underlying t = some (.slice e)) (hu : P.underlying u = some .string) (hi : (P.info? e).map (fun i => (i.zero, i.size, i.bytes)) = some (some (.int .u8 0), 1, 1))
    (v : Value) (n : Nat) (xs : List Value) (hs : a.eval s = v) (hown : w.ownsRow base e 1 v n xs)
    (y : ByteArray) (hx : a.eval x = .string y)
    (h63 : n + y.size ≤ 1099511627776) (hbase : base ≤ w.heap.size)
    (h : ∀ v' w', w'.ownsRow base e 1 v' (n + y.size) (xs ++ cellsL (strL y)) → w.grownBy w' v.ownBlock → wpList P ops Q rest (a.put o.dst v') w') : wpList P ops Q (o :: rest) a w := by
  obtain ⟨i, h1', h2', h3', h4'⟩ := info_parts hi
  refine Lib.wpList_append_own_string w hgd s x t u ho base e i ht hu h1' h2' h3' h4' v n xs hs hown y hx (by unfold maxLen; omega) (by omega) hbase (fun v' w' a1 a2 _ => h v' w' (by rw [← strL_cells]; exact a1) a2)
/-- A block that a literal has made. -/
theorem Bytes.lit {w : World} {g : Nat} {t : TypeId} {fr : Nat × Nat} {l : List Nat} (h : w.heap[g]? = some (.cells (cellsL l).toArray t fr)) (hl : ∀ x ∈ l, x < 256) : Bytes w (.slice (some ⟨g, 0, none⟩) l.length l.length) l :=
  ⟨hl, _, g, 0, _, rfl, Nat.le_refl _, fun _ => ⟨rfl, blk_lt h⟩, fun j hj => by rw [Nat.zero_add]; exact cell_blk h j (by rw [List.getElem?_toArray]; exact cellsL_at l j hj)⟩
theorem Whole0.some (a : Addr) (n c : Nat) : Whole0 (.slice (some a) n c) := fun _ _ e => by cases e
/-- Bytes of the call's own. -/
theorem Bytes.own {w : World} {base : Nat} {e : TypeId} {v : Value} {n : Nat} {l : List Nat} (h : w.ownsRow base e 1 v n (cellsL l)) (hl : ∀ x ∈ l, x < 256) : Bytes w v l := by
  obtain ⟨a, g, c, rfl, h1, h2, h3, h4⟩ := ownsRow_form h
  have hn : n = l.length := by have := h.1; simpa [cellsL] using this.symm
  subst hn
  exact ⟨hl, a, g, 0, c, rfl, h1, fun h => ⟨(h3 h).1, (h3 h).2.2⟩, fun j hj => by rw [Nat.zero_add, h4 j hj]; exact cellsL_at l j hj⟩
theorem Whole0.own {w : World} {base : Nat} {e : TypeId} {v : Value} {n : Nat} {xs : List Value} (h : w.ownsRow base e 1 v n xs) : Whole0 v := by
  intro n' c e
  rcases h.2 with ⟨rfl, rfl⟩ | ⟨g, cap, cur, rfl, _⟩
  · cases e; exact ⟨rfl, rfl⟩
  · cases e
end
end Go.Proofs.YtgdnndapmcjoeaaDoor
