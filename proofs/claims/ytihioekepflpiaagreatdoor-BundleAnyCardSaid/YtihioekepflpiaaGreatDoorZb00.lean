import Derived.WalkKit
import Derived.Deep.MidRow
import Derived.Deep.Draws
import Derived.OwnWalk
set_option linter.unusedVariables false
set_option linter.unusedSimpArgs false
namespace Go.Proofs.YtihioekepflpiaaGreatDoor
namespace Sha
def rotr (x n : Nat) : Nat := (x * 2 ^ (32 - n) % 4294967296) ||| (x / 2 ^ n)
def high (x i j k : Nat) : Nat := rotr x i ^^^ rotr x j ^^^ rotr x k
def ch (e f g : Nat) : Nat := (e &&& f) ^^^ ((4294967295 - e) &&& g)
def maj (a b c : Nat) : Nat := ((a &&& b) ^^^ (a &&& c)) ^^^ (b &&& c)
/-- The words that go from round to round. -/
structure St where
  a : Nat
  b : Nat
  c : Nat
  d : Nat
  e : Nat
  f : Nat
  g : Nat
  h : Nat
def St.ok (s : St) : Prop := s.a < 4294967296 ∧ s.b < 4294967296 ∧ s.c < 4294967296 ∧ s.d < 4294967296 ∧ s.e < 4294967296 ∧ s.f < 4294967296 ∧ s.g < 4294967296 ∧ s.h < 4294967296
def t1 (s : St) (k w : Nat) : Nat := ((((s.h + high s.e 6 11 25) % 4294967296 + ch s.e s.f s.g) % 4294967296 + k) % 4294967296 + w) % 4294967296
def t2 (s : St) : Nat := (high s.a 2 13 22 + maj s.a s.b s.c) % 4294967296
def St.step (s : St) (k w : Nat) : St := ⟨(t1 s k w + t2 s) % 4294967296, s.a, s.b, s.c, (s.d + t1 s k w) % 4294967296, s.e, s.f, s.g⟩
/-- The words behind n rounds. -/
def St.run (ks ws : List Nat) (s : St) : Nat → St
  | 0 => s
  | n + 1 => (St.run ks ws s n).step (ks.getD n 0) (ws.getD n 0)
/-- Two rows of words, added. -/
def St.add (s r : St) : St := ⟨(s.a + r.a) % 4294967296, (s.b + r.b) % 4294967296, (s.c + r.c) % 4294967296, (s.d + r.d) % 4294967296, (s.e + r.e) % 4294967296, (s.f + r.f) % 4294967296, (s.g + r.g) % 4294967296, (s.h + r.h) % 4294967296⟩
/-- A block's word number i: four bytes, the first one the highest. -/
def word (b : List Nat) (i : Nat) : Nat := ((b.getD (4 * i) 0 * 16777216 ||| b.getD (4 * i + 1) 0 * 65536) ||| b.getD (4 * i + 2) 0 * 256) ||| b.getD (4 * i + 3) 0
def words (b : List Nat) : Nat → List Nat
  | 0 => []
  | n + 1 => words b n ++ [word b n]
def first : St := ⟨1779033703, 3144134277, 1013904242, 2773480762, 1359893119, 2600822924, 528734635, 1541459225⟩
def ks : List Nat := [1116352408, 1899447441, 3049323471, 3921009573, 961987163, 1508970993, 2453635748, 2870763221, 3624381080, 310598401, 607225278, 1426881987, 1925078388, 2162078206, 2614888103, 3248222580, 3835390401, 4022224774, 264347078, 604807628, 770255983, 1249150122, 1555081692, 1996064986, 2554220882, 2821834349, 2952996808, 3210313671, 3336571891, 3584528711, 113926993, 338241895, 666307205, 773529912, 1294757372, 1396182291, 1695183700, 1986661051, 2177026350, 2456956037, 2730485921, 2820302411, 3259730800, 3345764771, 3516065817, 3600352804, 4094571909, 275423344, 430227734, 506948616, 659060556, 883997877, 958139571, 1322822218, 1537002063, 1747873779, 1955562222, 2024104815, 2227730452, 2361852424, 2428436474, 2756734187, 3204031479, 3329325298]
/-- A hash: the words that go from block to block, how many blocks went into them, the bytes that do not fill a block yet. -/
structure HS where
  words : St
  blocks : Nat
  bytes : List Nat
  filled : Nat
structure HS.ok (s : HS) : Prop where
  words : s.words.ok
  len : s.bytes.length = 64
  lt : ∀ x ∈ s.bytes, x < 256
  filled : s.filled ≤ 64
  blocks : s.blocks < 1152921504606846976
def HS.base (s : HS) : St := if s.blocks = 0 then first else s.words
def St.list (s : St) : List Nat := [s.a, s.b, s.c, s.d, s.e, s.f, s.g, s.h]
/-- Byte number n of a digest. -/
def digB (s : St) (n : Nat) : Nat := s.list.getD (n / 4) 0 / 2 ^ (24 - 8 * (n % 4)) % 256
def digN (s : St) : Nat → List Nat
  | 0 => []
  | n + 1 => digN s n ++ [digB s n]
def dig (s : St) : List Nat := digN s 32
end Sha
end Go.Proofs.YtihioekepflpiaaGreatDoor
namespace Go.Proofs.YtihioekepflpiaaGreatDoor
namespace Sha
end Sha
end Go.Proofs.YtihioekepflpiaaGreatDoor
namespace Go.Proofs.YtihioekepflpiaaGreatDoor
namespace Sha
end Sha
end Go.Proofs.YtihioekepflpiaaGreatDoor
namespace Go.Proofs.YtihioekepflpiaaGreatDoor
open Go.RowKit
theorem ret_int {k : IntKind} {a b : Int} (h : a = b) : Ending.returned (.int k a) = .returned (.int k b) := by rw [h]
theorem cell_blk {w : World} {b : Nat} {cs : Array Value} {t : TypeId} {fr : Nat × Nat} (h : w.heap[b]? = some (.cells cs t fr)) (i : Nat) {v : Value} (hv : cs[i]? = some v) : w.cell? ⟨b, i, none⟩ = some v := by
  simp [World.cell?, h, hv]
theorem free_blk {w : World} {b : Nat} {cs : Array Value} {t : TypeId} (h : w.heap[b]? = some (.cells cs t (0, 0))) (i : Nat) : w.frozen? ⟨b, i, none⟩ = false := by
  simp [World.frozen?, h]
theorem grown_refl (w : World) (row : Option Nat) : w.grownBy w row := ⟨rfl, rfl, rfl, Nat.le_refl _, fun _ _ _ => rfl⟩
theorem grown_trans {a b c : World} {row : Option Nat} (h : a.grownBy b row) (k : b.grownBy c row) : a.grownBy c row :=
  ⟨k.os.trans h.os, k.tape.trans h.tape, k.output.trans h.output, Nat.le_trans h.size k.size, fun i hi hne => (k.block i (Nat.lt_of_lt_of_le hi h.size) hne).trans (h.block i hi hne)⟩
theorem grown_drewN {a b : World} {row : Option Nat} (h : a.grownBy b row) (n : Nat) : a.grownBy (b.drewN n) row := ⟨h.os, h.tape, h.output, h.size, h.block⟩
theorem grown_of_drewN {a b : World} {row : Option Nat} {n : Nat} (h : (a.drewN n).grownBy b row) : a.grownBy b row := ⟨h.os, h.tape, h.output, h.size, h.block⟩
theorem grown_alloc {a b : World} {row : Option Nat} (h : a.grownBy b row) (o : Obj) : a.grownBy (b.alloc o) row := grown_trans h (World.grownBy_alloc b o row)
/-- A block from w's end on is nobody's: what is written there is not seen from w. -/
theorem grown_forget {a b c : World} {g : Nat} (h : a.grownBy b none) (hg : a.heap.size ≤ g) (k : b.grownBy c (some g)) : a.grownBy c none :=
  ⟨k.os.trans h.os, k.tape.trans h.tape, k.output.trans h.output, Nat.le_trans h.size k.size, fun i hi _ => (k.block i (Nat.lt_of_lt_of_le hi h.size) (by simp; omega)).trans (h.block i hi (by simp))⟩
theorem grown_set {w w' : World} {row : Option Nat} (h : w.grownBy w' row) {p : Addr} (hp : w.heap.size ≤ p.block ∨ some p.block = row) (u : Value) : w.grownBy (w'.setCell p u) row :=
  ⟨h.os, h.tape, h.output, by simpa [World.setCell] using h.size, fun k hk hne => by
    rw [Below.heap_setCell _ _ _ _ (by rcases hp with hp | hp; (· omega); (· intro e; exact hne (by rw [e, hp])))]; exact h.block k hk hne⟩
theorem grown_setCells {w : World} {row : Option Nat} (b : Nat) (hb : w.heap.size ≤ b ∨ some b = row) (vs : List Value) : ∀ (o : Nat) (w' : World), w.grownBy w' row → w.grownBy (w'.setCells b o vs) row := by
  induction vs with
  | nil => intro o w' h; exact h
  | cons v r ih => intro o w' h; exact ih (o + 1) _ (grown_set h hb v)
theorem grown_setRow {w w' : World} {row : Option Nat} (h : w.grownBy w' row) {g : Nat} (hg : w.heap.size ≤ g) (cs : Array Value) : w.grownBy (w'.setRow g cs) row :=
  ⟨h.os, h.tape, h.output, by simpa using h.size, fun k hk hne => by rw [setRow_other _ _ _ _ (by omega)]; exact h.block k hk hne⟩
theorem setCell_heap {w : World} {b i : Nat} {cs : Array Value} {t : TypeId} {fr : Nat × Nat} (h : w.heap[b]? = some (.cells cs t fr)) (v : Value) :
    (w.setCell ⟨b, i, none⟩ v).heap[b]? = some (.cells (cs.setIfInBounds i v) t fr) := by
  simp [World.setCell, Array.getElem?_modify, h]
theorem setCell_size (w : World) (p : Addr) (v : Value) : (w.setCell p v).heap.size = w.heap.size := by simp [World.setCell]
theorem setCells_heap {b : Nat} {t : TypeId} {fr : Nat × Nat} (cs : List Value) : ∀ (pre mid post : List Value) (w : World), w.heap[b]? = some (.cells (pre ++ mid ++ post).toArray t fr) → mid.length = cs.length →
    (w.setCells b pre.length cs).heap[b]? = some (.cells (pre ++ cs ++ post).toArray t fr) := by
  induction cs with
  | nil => intro pre mid post w h hl; obtain rfl : mid = [] := List.eq_nil_of_length_eq_zero (by simpa using hl); exact h
  | cons v r ih =>
    intro pre mid post w h hl
    match mid, hl with
    | m :: mid', hl =>
      have h1 := setCell_heap (i := pre.length) h v
      have e : (pre ++ (m :: mid') ++ post).toArray.setIfInBounds pre.length v = ((pre ++ [v]) ++ mid' ++ post).toArray := by
        simp
      rw [e] at h1
      have := ih (pre ++ [v]) mid' post _ h1 (by simpa using hl)
      simp only [List.length_append, List.length_singleton] at this
      rw [World.setCells, this]
      simp
theorem range_all {w : World} {b : Nat} {V : Array Value} {t : TypeId} {fr : Nat × Nat} (h : w.heap[b]? = some (.cells V t fr)) : w.rangeAt b 0 V.toList := fun j v hj =>
  cell_blk h _ (by simpa using hj)
theorem blk_lt {w : World} {b : Nat} {o : Obj} (h : w.heap[b]? = some o) : b < w.heap.size := (Array.getElem?_eq_some_iff.1 h).1
theorem alloc_at (w : World) (o : Obj) : (w.alloc o).heap[w.heap.size]? = some o := by
  show (w.heap.push o)[w.heap.size]? = some o
  simp
theorem alloc_old (w : World) (o : Obj) (k : Nat) (h : k < w.heap.size) : (w.alloc o).heap[k]? = w.heap[k]? := Below.heap_alloc w o k h
theorem alloc_size (w : World) (o : Obj) : (w.alloc o).heap.size = w.heap.size + 1 := by
  show (w.heap.push o).size = _
  simp
theorem alloc2_new (w : World) (o o' : Obj) : ((w.alloc o).alloc o').heap[w.heap.size + 1]? = some o' := by
  have := alloc_at (w.alloc o) o'
  rwa [alloc_size] at this
theorem alloc2_old (w : World) (o o' : Obj) : ((w.alloc o).alloc o').heap[w.heap.size]? = some o := by
  rw [alloc_old _ _ _ (by rw [alloc_size]; omega)]; exact alloc_at w o
theorem alloc_keep {w : World} {o p : Obj} {g : Nat} (h : w.heap[g]? = some p) : (w.alloc o).heap[g]? = some p := by
  show (w.heap.push o)[g]? = _
  rw [Array.getElem?_push_lt (blk_lt h), ← h, Array.getElem?_eq_getElem (blk_lt h)]
end Go.Proofs.YtihioekepflpiaaGreatDoor
namespace Go.Proofs.YtihioekepflpiaaGreatDoor
open Go.RowKit
def bytesV (ws : List Nat) : Array Value := (ws.map fun (x : Nat) => Value.int .u8 (x : Int)).toArray
theorem bytesV_at (ws : List Nat) (i : Nat) (h : i < ws.length) : (bytesV ws)[i]? = some (.int .u8 (ws.getD i 0 : Nat)) := by
  simp [bytesV, h]
/-- The slice v has just the bytes l. -/
structure Bytes (w : World) (v : Value) (l : List Nat) : Prop where
  lt : ∀ x ∈ l, x < 256
  at_ : ∃ (a : Option Addr) (sb so c : Nat), v = .slice a l.length c ∧ l.length ≤ c ∧ (0 < l.length → a = some ⟨sb, so, none⟩ ∧ sb < w.heap.size) ∧
    ∀ j, j < l.length → w.cell? ⟨sb, so + j, none⟩ = some (.int .u8 (l.getD j 0 : Nat))
theorem Bytes.grown {w w' : World} {v : Value} {l : List Nat} (h : Bytes w v l) (hg : w.grownBy w' none) : Bytes w' v l := by
  obtain ⟨h1, a, sb, so, c, h2, h3, h4, h5⟩ := h
  exact ⟨h1, a, sb, so, c, h2, h3, fun h => ⟨(h4 h).1, Nat.lt_of_lt_of_le (h4 h).2 hg.size⟩, fun j hj => by
    rw [World.cell?_of_block (hg.block sb (h4 (by omega)).2 (by simp))]; exact h5 j hj⟩
end Go.Proofs.YtihioekepflpiaaGreatDoor
namespace Go.Proofs.YtihioekepflpiaaGreatDoor
open Go.RowKit
section
variable {P : Program}
theorem grown_own {a b c : World} {base : Nat} {e : TypeId} {size : Nat} {v : Value} {n : Nat} {xs : List Value} (h : a.grownBy b none) (ho : b.ownsRow base e size v n xs) (hb : a.heap.size ≤ base) (k : b.grownBy c v.ownBlock) : a.grownBy c none :=
  ⟨k.os.trans h.os, k.tape.trans h.tape, k.output.trans h.output, Nat.le_trans h.size k.size, fun i hi _ => (k.block i (Nat.lt_of_lt_of_le hi h.size) (fun e => by have := (ho.lt _ e.symm).1; omega)).trans (h.block i hi (by simp))⟩
/-- 'append(s, x)', x one element of one cell that was just boxed. -/
theorem wpList_app1 {w : World} {ops : Array Oper} {rest : List Oper} {o : Oper} {a : Act} {Q : Exit → Act → World → Prop} (hgd : o.guard = none) (s x : Operand) (t : TypeId)
    (ho : o.op = .call { callee := .builtin .append, args := #[s, x], argTypes := #[t, t] })
    (base : Nat) (e : TypeId) (z : Value) (bytes : Nat) (ht : P.underlying t = some (.slice e)) (hi : (P.info? e).map (fun i => (i.zero, i.size, i.bytes)) = some (some z, 1, bytes)) (hzs : z.cells.size = 1) (hby : bytes ≤ 64)
    (v : Value) (n : Nat) (xs : List Value) (hs : a.eval s = v) (hown : w.ownsRow base e 1 v n xs)
    (ad : Addr) (u : Value) (hx : a.eval x = .slice (some ad) 1 1) (hu : w.cell? ad = some u) (h1 : u.oneCell' = true)
    (h63 : n < 1099511627776) (hbase : base ≤ w.heap.size)
    (h : ∀ v' w', w'.ownsRow base e 1 v' (n + 1) (xs ++ [u]) → w.grownBy w' v.ownBlock → wpList P ops Q rest (a.put o.dst v') w') : wpList P ops Q (o :: rest) a w := by
  obtain ⟨i, h1', h2', h3', h4'⟩ := info_parts hi
  refine wpList_append_own w hgd s x t ho base e i z 1 bytes ht h1' h2' h3' h4' hzs (by decide) v n xs hs hown ad 1 1 [u] hx rfl ?_ ?_ ?_ ?_ hbase (fun v' w' a1 a2 _ => h v' w' a1 a2)
  · intro j u' hj
    match j, hj with
    | 0, hj =>
      simp at hj
      subst hj
      simpa [Addr.add] using hu
  · intro u' hu'
    simp at hu'
    subst hu'
    exact h1
  · unfold maxLen; omega
  · exact Nat.le_trans (Nat.mul_le_mul_left _ hby) (by omega)
theorem ownsRow_empty (w : World) (base : Nat) (e : TypeId) : w.ownsRow base e 1 (.slice none 0 0) 0 [] := ⟨rfl, .inl ⟨rfl, rfl⟩⟩
/-- A block that a literal has made. -/
theorem ownsRow_lit {w : World} {base g : Nat} {e : TypeId} {cs : Array Value} (h : w.heap[g]? = some (.cells cs e (0, 0))) (hb : base ≤ g) (hl : cs.size ≤ 1099511627776) : w.ownsRow base e 1 (.slice (some ⟨g, 0, none⟩) cs.size cs.size) cs.size cs.toList :=
  ⟨by simp, .inr ⟨g, cs.size, cs, rfl, hb, h, Nat.le_refl _, by unfold maxLen; omega, by simp, by rw [Nat.mul_one, List.take_of_length_le (by simp)]⟩⟩
/-- What an owned row is, for reading. -/
theorem ownsRow_form {w : World} {base : Nat} {e : TypeId} {v : Value} {n : Nat} {xs : List Value} (h : w.ownsRow base e 1 v n xs) : ∃ (a : Option Addr) (g c : Nat), v = .slice a n c ∧ n ≤ c ∧ c ≤ maxLen ∧ (0 < n → a = some ⟨g, 0, none⟩ ∧ base ≤ g ∧ g < w.heap.size) ∧ ∀ j, j < n → w.cell? ⟨g, j, none⟩ = xs[j]? := by
  obtain ⟨h1, h2⟩ := h
  rcases h2 with ⟨rfl, rfl⟩ | ⟨g, cap, cur, rfl, hb, hg, hn, hc, hs, ht⟩
  · exact ⟨none, 0, 0, rfl, Nat.le_refl _, Nat.zero_le _, fun h => absurd h (by decide), fun j hj => absurd hj (by omega)⟩
  · refine ⟨_, g, cap, rfl, hn, hc, fun _ => ⟨rfl, hb, blk_lt hg⟩, fun j hj => ?_⟩
    rw [← ht, List.getElem?_take, if_pos (by omega)]
    have : j < cur.size := by omega
    simp [World.cell?, hg]
end
end Go.Proofs.YtihioekepflpiaaGreatDoor
