import Derived.Test.YtgdnndapmcjoeaaDoorKe01
import Derived.OwnWalk
namespace Go.Proofs.YtgdnndapmcjoeaaDoor
open Go.RowKit
def bytesV (ws : List Nat) : Array Value := (ws.map fun (x : Nat) => Value.int .u8 (x : Int)).toArray
theorem bytesV_at (ws : List Nat) (i : Nat) (h : i < ws.length) : (bytesV ws)[i]? = some (.int .u8 (ws.getD i 0 : Nat)) := by
  simp [bytesV, h]
theorem bytesV_size (ws : List Nat) : (bytesV ws).size = ws.length := by simp [bytesV]
/-- The slice v has just the bytes l. -/
structure Bytes (w : World) (v : Value) (l : List Nat) : Prop where
  lt : ∀ x ∈ l, x < 256
  at_ : ∃ (a : Option Addr) (sb so c : Nat), v = .slice a l.length c ∧ l.length ≤ c ∧ (0 < l.length → a = some ⟨sb, so, none⟩ ∧ sb < w.heap.size) ∧
    ∀ j, j < l.length → w.cell? ⟨sb, so + j, none⟩ = some (.int .u8 (l.getD j 0 : Nat))
theorem Bytes.grown {w w' : World} {v : Value} {l : List Nat} (h : Bytes w v l) (hg : w.grownBy w' none) : Bytes w' v l := by
  obtain ⟨h1, a, sb, so, c, h2, h3, h4, h5⟩ := h
  exact ⟨h1, a, sb, so, c, h2, h3, fun h => ⟨(h4 h).1, Nat.lt_of_lt_of_le (h4 h).2 hg.size⟩, fun j hj => by
    rw [World.cell?_of_block (hg.block sb (h4 (by omega)).2 (by simp))]; exact h5 j hj⟩
end Go.Proofs.YtgdnndapmcjoeaaDoor
namespace Go.Proofs.YtgdnndapmcjoeaaDoor
open Go.RowKit
section
variable {P : Program}
theorem grown_own {a b c : World} {base : Nat} {e : TypeId} {size : Nat} {v : Value} {n : Nat} {xs : List Value} (h : a.grownBy b none) (ho : b.ownsRow base e size v n xs) (hb : a.heap.size ≤ base) (k : b.grownBy c v.ownBlock) : a.grownBy c none :=
  ⟨k.os.trans h.os, k.tape.trans h.tape, k.output.trans h.output, Nat.le_trans h.size k.size, fun i hi _ => (k.block i (Nat.lt_of_lt_of_le hi h.size) (fun e => by have := (ho.lt _ e.symm).1; omega)).trans (h.block i hi (by simp))⟩
/-- 'append(s, x)', x one element of one cell that was just boxed. -/
theorem wpList_app1 {w : World} {ops : Array Oper} {rest : List Oper} {o : Oper} {a : Act} {Q : Exit → Act → World → Prop} (hgd : o.guard = none) (s x : Operand) (t : TypeId)
    (ho : o.op = .call { callee := .builtin .append, args := #[s, x], argTypes := #[t, t] })
    (base : Nat) (e : TypeId) (z : Value) (bytes : Nat) (ht : P.underlying t = some (.slice e)) (hi : (P.info? e).map (fun i => (i.zero, i.size, i.bytes)) = some (some z, 1, bytes)) (hzs : z.cells.size = 1) (hby : bytes ≤ 64)
    (v : Value) (n : Nat) (xs : List Value) (hs : a.eval s = v) (hown : w.ownsRow base e 1 v n xs)
    (ad : Addr) (u : Value) (hx : a.eval x = .slice (some ad) 1 1) (hu : w.cell? ad = some u) (h1 : u.oneCell' = true)
    (h63 : n < 1099511627776) (hbase : base ≤ w.heap.size)
    (h : ∀ v' w', w'.ownsRow base e 1 v' (n + 1) (xs ++ [u]) → w.grownBy w' v.ownBlock → wpList P ops Q rest (a.put o.dst v') w') : wpList P ops Q (o :: rest) a w := by
  obtain ⟨i, h1', h2', h3', h4'⟩ := info_parts hi
  refine wpList_append_own w hgd s x t ho base e i z 1 bytes ht h1' h2' h3' h4' hzs (by decide) v n xs hs hown ad 1 1 [u] hx rfl ?_ ?_ ?_ ?_ hbase (fun v' w' a1 a2 _ => h v' w' a1 a2)
  · intro j u' hj
    match j, hj with
    | 0, hj =>
      simp at hj
      subst hj
      simpa [Addr.add] using hu
  · intro u' hu'
    simp at hu'
    subst hu'
    exact h1
  · unfold maxLen; omega
  · exact Nat.le_trans (Nat.mul_le_mul_left _ hby) (by omega)
/-- A block that a literal has made. -/
theorem ownsRow_lit {w : World} {base g : Nat} {e : TypeId} {cs : Array Value} (h : w.heap[g]? = some (.cells cs e (0, 0))) (hb : base ≤ g) (hl : cs.size ≤ 1099511627776) : w.ownsRow base e 1 (.slice (some ⟨g, 0, none⟩) cs.size cs.size) cs.size cs.toList :=
  ⟨by simp, .inr ⟨g, cs.size, cs, rfl, hb, h, Nat.le_refl _, by unfold maxLen; omega, by simp, by rw [Nat.mul_one, List.take_of_length_le (by simp)]⟩⟩
/-- What an owned row is, for reading. -/
theorem ownsRow_form {w : World} {base : Nat} {e : TypeId} {v : Value} {n : Nat} {xs : List Value} (h : w.ownsRow base e 1 v n xs) : ∃ (a : Option Addr) (g c : Nat), v = .slice a n c ∧ n ≤ c ∧ c ≤ maxLen ∧ (0 < n → a = some ⟨g, 0, none⟩ ∧ base ≤ g ∧ g < w.heap.size) ∧ ∀ j, j < n → w.cell? ⟨g, j, none⟩ = xs[j]? := by
  obtain ⟨h1, h2⟩ := h
  rcases h2 with ⟨rfl, rfl⟩ | ⟨g, cap, cur, rfl, hb, hg, hn, hc, hs, ht⟩
  · exact ⟨none, 0, 0, rfl, Nat.le_refl _, Nat.zero_le _, fun h => absurd h (by decide), fun j hj => absurd hj (by omega)⟩
  · refine ⟨_, g, cap, rfl, hn, hc, fun _ => ⟨rfl, hb, blk_lt hg⟩, fun j hj => ?_⟩
    rw [← ht, List.getElem?_take, if_pos (by omega)]
    have : j < cur.size := by omega
    simp [World.cell?, hg]
end
end Go.Proofs.YtgdnndapmcjoeaaDoor
