import Derived.Test.YtgdnndapmcjoeaaDoorKe01
import Derived.Test.YtgdnndapmcjoeaaDoorKe02
import Derived.Test.YtgdnndapmcjoeaaDoorKe03
import Derived.Test.YtgdnndapmcjoeaaDoorKe08
import Derived.Test.YtgdnndapmcjoeaaDoorKe28
import Derived.Test.YtgdnndapmcjoeaaDoorKe29
import Derived.Test.YtgdnndapmcjoeaaDoorKe34
import Derived.Lib.ConvBytes
import Derived.WalkKit
import Derived.BigQuiet
import Derived.Handy
namespace Go.Proofs.YtgdnndapmcjoeaaDoor
open Go.RowKit Go.Maps
set_option linter.unusedVariables false
theorem own_emptyN {w : World} {base g : Nat} {e : TypeId} {sz : Nat} (h : w.heap[g]? = some (.cells #[] e (0, 0))) (hb : base ≤ g) : w.ownsRow base e sz (.slice (some ⟨g, 0, none⟩) 0 0) 0 [] :=
  ⟨by simp, .inr ⟨g, 0, #[], rfl, hb, h, Nat.le_refl _, Nat.zero_le _, by simp, by simp⟩⟩
theorem kKeyInfo : (Tryd.prog.info? 93).map (fun i => (i.zero, i.size, i.bytes)) = some (some (.agg #[.string ⟨#[]⟩, .slice none 0 0]), 2, 40) := by kernel_rfl
end Go.Proofs.YtgdnndapmcjoeaaDoor
namespace Go.Proofs.YtgdnndapmcjoeaaDoor
open Go.RowKit Go.Maps
set_option linter.unusedVariables false
theorem kNilCk {o : Oper} {a : Act} {x : Operand} (w : World) (p : Addr) (ho : o.op = .nilCheck x) (hx : a.eval x = .pointer (some p)) : (execOp a.eval o).run Tryd.prog w = .ok (.value (.pointer (some p))) w := by
  simp only [execOp, ho, hx]
  simp [go_sem, Result.andThen]
end Go.Proofs.YtgdnndapmcjoeaaDoor
namespace Go.Proofs.YtgdnndapmcjoeaaDoor
open Go.RowKit Go.Maps
set_option linter.unusedVariables false
set_option maxRecDepth 100000 in
set_option maxHeartbeats 400000 in
theorem refSign_err (w : World) (m : Nat) (kv bv : Value) (ks : List (ByteArray × List Nat)) (id dom : ByteArray) (hd : dom.size ≤ 1000) (va : Option Addr) (n vc : Nat) (msg : List Nat) (hB : Bytes w (.slice va n vc) msg) (hB0 : Whole0 (.slice va n vc)) (hb : w.heap[m]? = some (.cells #[kv, bv] 43 (0, 0))) (hK : KeysV w kv ks) (hl : ks.length ≤ 1000) (he : askE ks id dom msg ≠ 0) :
    Calls Tryd.prog 26 #[.pointer (some ⟨m, 0, none⟩), .string id, .string dom, .slice va n vc] w fun e w' => e = .returned (.tuple #[.slice none 0 0, .int .i64 (askE ks id dom msg : Nat)]) ∧ w.grownBy w' none := by
  have HA := asked_any w m kv bv ks id dom hd va n vc msg hB hB0 hb hK (by omega)
  obtain ⟨N, hN⟩ : ∃ N, N = askE ks id dom msg := ⟨_, rfl⟩
  rw [← hN] at HA he ⊢
  have HA := Lib.hid HA
  have hni : ¬ (N : Int) = 0 := by omega
  clear hB hB0 hb hK hl hN he
  go_enter Tryd.func26, Tryd.ntmps26
  go_wp2_with (go_at_call 40; refine HA.out.mono ?_; rintro e w1 ⟨rfl, hg1⟩; have G1 := Lib.hid hg1; clear hg1)
  go_returns
  exact ⟨rfl, G1.out⟩
end Go.Proofs.YtgdnndapmcjoeaaDoor
namespace Go.Proofs.YtgdnndapmcjoeaaDoor
open Go.RowKit Go.Maps
set_option linter.unusedVariables false
section
variable {P : Program} {a : Act} {o : Oper} {w : World}
theorem kconv_val {s d : TypeId} {x : Operand} {p v : Value} (ho : o.op = .convert s d x) (hx : a.eval x = p) (h : (convert s d p).run P w = .ok v w) : (execOp a.eval o).run P w = .ok (.value v) w := by
  simp [execOp, ho, hx, h, Result.andThen]
theorem kneqstr_val {t r : TypeId} {x y : Operand} {s : ByteArray} (ho : o.op = .binOp .neq t x y r) (hx : a.eval x = .string s) (hy : a.eval y = .string s) : (execOp a.eval o).run P w = .ok (.value (.bool false)) w := by
  simp only [execOp, ho, hx, hy]
  simp [eqGuard, Sem.run_pure, binOp, Op.stringOp]
theorem knot_val {t : TypeId} {x : Operand} {b : Bool} (ho : o.op = .unOp .not t x) (hx : a.eval x = .bool b) : (execOp a.eval o).run P w = .ok (.value (.bool (!b))) w := by
  simp only [execOp, ho, hx]
  simp [go_sem, Sem.run_pure, Result.andThen]
theorem kpick_false {c x y : Operand} {v : Value} (ho : o.op = .pick c x y) (hc : a.eval c = .bool false) (hy : a.eval y = v) : (execOp a.eval o).run P w = .ok (.value v) w := by
  simp [execOp, ho, hc, hy, Sem.run_pure, asBool]
end
theorem kSlice {o : Oper} {a : Act} {x : Operand} (g : Nat) (w : World) (ho : o.op = .slice 64 x none none none) (hx : a.eval x = .pointer (some ⟨g, 0, none⟩)) : (execOp a.eval o).run Tryd.prog w = .ok (.value (.slice (some ⟨g, 0, none⟩) 32 32)) w := by
  simp only [execOp, ho, hx]
  simp [go_sem, Result.andThen]
theorem kBuildLn {o : Oper} {a : Act} {x y z : Operand} {s1 s2 s3 : ByteArray} (w : World) (ho : o.op = .build 98 #[(0, x), (1, y), (2, z)]) (hx : a.eval x = .string s1) (hy : a.eval y = .string s2) (hz : a.eval z = .string s3) : (execOp a.eval o).run Tryd.prog w = .ok (.value (.agg #[.string s1, .string s2, .string s3])) w := by
  have hb : (Instr.build 98 #[(0, .string s1), (1, .string s2), (2, .string s3)]).run Tryd.prog w = .ok (.agg #[.string s1, .string s2, .string s3]) w := by simp [go_sem]
  have hp : (#[(0, x), (1, y), (2, z)] : Array (Nat × Operand)).map (fun p => (p.1, a.eval p.2)) = #[(0, .string s1), (1, .string s2), (2, .string s3)] := by simp [hx, hy, hz]
  simp only [execOp, ho]
  rw [hp, Sem.run_bind, hb]
  rfl
noncomputable def rvRegion6 : Code := kRegion Tryd.f28.body 6
def r6F (vs : List Value) (j : Nat) (x : Value) (_ : World) : Prop := x = vs.getD j undef
set_option maxRecDepth 100000 in
set_option maxHeartbeats 400000 in
theorem refVerify_err (w : World) (m : Nat) (kv bv sv : Value) (ks : List (ByteArray × List Nat)) (id dom : ByteArray) (hd : dom.size ≤ 1000) (va : Option Addr) (n vc : Nat) (msg : List Nat) (hB : Bytes w (.slice va n vc) msg) (hB0 : Whole0 (.slice va n vc)) (hb : w.heap[m]? = some (.cells #[kv, bv] 43 (0, 0))) (hK : KeysV w kv ks) (hl : ks.length ≤ 1000) (he : askE ks id dom msg ≠ 0) :
    Calls Tryd.prog 28 #[.pointer (some ⟨m, 0, none⟩), .string id, .string dom, .slice va n vc, sv] w fun e w' => e = .returned (.int .i64 (askE ks id dom msg : Nat)) ∧ w.grownBy w' none := by
  have HA := asked_any w m kv bv ks id dom hd va n vc msg hB hB0 hb hK (by omega)
  obtain ⟨N, hN⟩ : ∃ N, N = askE ks id dom msg := ⟨_, rfl⟩
  rw [← hN] at HA he ⊢
  have HA := Lib.hid HA
  have hni : ¬ (N : Int) = 0 := by omega
  clear hB hB0 hb hK hl hN he
  go_enter Tryd.func28, Tryd.ntmps28
  go_wp2_with (go_at_call 40; refine HA.out.mono ?_; rintro e w1 ⟨rfl, hg1⟩; have G1 := Lib.hid hg1; clear hg1)
  go_ret
  exact ⟨rfl, G1.out⟩
end Go.Proofs.YtgdnndapmcjoeaaDoor
namespace Go.Proofs.YtgdnndapmcjoeaaDoor
open Go.RowKit Go.Maps
set_option linter.unusedVariables false
/-- The program's ring in block b, the document's in block m. -/
def S0 (w1 : World) (b m : Nat) (kv bv : Value) (s : Rg) (W : World) : Prop :=
  ∃ F : Nat → Prop, PrG w1 F b s W ∧ ¬ F m ∧ w1.heap.size ≤ m ∧ W.heap[m]? = some (.cells #[kv, bv] 43 (0, 0)) ∧ ∀ W', Upto (fun q => F q ∨ q = m) W W' → KeysV W' kv [(idText noughts, noughts)]
section
variable {A : Nat → Addr} {w1 W w' : World} {b m : Nat} {kv bv : Value} {s : Rg} {dom v : ByteArray}
theorem S0.base (h : S0 w1 b m kv bv s W) : w1.grownBy W none := by obtain ⟨F, hP, _⟩ := h; exact hP.base
theorem S0.still (h : S0 w1 b m kv bv s W) (hg : W.grownBy w' none) : S0 w1 b m kv bv s w' := by
  obtain ⟨F, hP, hn, hl, hm, hK⟩ := h
  exact ⟨F, hP.still hg, hn, hl, (hg.block _ (blk_lt hm) (by simp)).trans hm, fun W' hU => hK W' ((Upto.of_grown _ hg).trans hU (fun _ _ h => h))⟩
theorem S0.mine (h : S0 w1 b m kv bv s W) {bv' : Value} (hg : W.grownBy w' (some m)) (hb : w'.heap[m]? = some (.cells #[kv, bv'] 43 (0, 0))) : S0 w1 b m kv bv' s w' := by
  obtain ⟨F, hP, hn, hl, hm, hK⟩ := h
  have hu : Upto (fun k => k = m) W w' := Upto.of_row hg (fun k e => .inl (Option.some.inj e).symm)
  refine ⟨F, hP.other (G := fun k => k = m) (G' := fun k => k = m) (fun k e => by rw [e]; exact hl) ⟨hu, fun _ _ h => h⟩ (fun k e hf => hn (by rw [← e]; exact hf)), hn, hl, hb, fun W' hU => hK W' ((hu.mono (fun _ _ e => .inr e)).trans hU (fun _ _ h => h))⟩
end
end Go.Proofs.YtgdnndapmcjoeaaDoor
namespace Go.Proofs.YtgdnndapmcjoeaaDoor
open Go.RowKit Go.Maps
set_option linter.unusedVariables false
theorem flat_at {α : Type} (f : α → List Value) (k : Nat) (hf : ∀ x, (f x).length = k) : ∀ (l : List α) (j : Nat) (x : α) (i : Nat), l[j]? = some x → i < k → (l.flatMap f)[j * k + i]? = (f x)[i]?
  | [], j, x, i, h, _ => by simp at h
  | a :: r, 0, x, i, h, hi => by
    simp at h; subst h
    rw [List.flatMap_cons, Nat.zero_mul, Nat.zero_add, List.getElem?_append_left (by rw [hf]; exact hi)]
  | a :: r, j + 1, x, i, h, hi => by
    rw [List.flatMap_cons, List.getElem?_append_right (by rw [hf, Nat.succ_mul]; omega), hf]
    have e : (j + 1) * k + i - k = j * k + i := by rw [Nat.succ_mul]; omega
    rw [e]
    exact flat_at f k hf r j x i (by simpa using h) hi
theorem getD_some {l : List Value} {i : Nat} (h : i < l.length) : l[i]? = some (l.getD i undef) := by rw [List.getD_eq_getElem?_getD, List.getElem?_eq_getElem h]; rfl
def lnC (x : ByteArray × ByteArray × ByteArray) : List Value := [.string x.1, .string x.2.1, .string x.2.2]
def kyC (p : (ByteArray × List Nat) × Value) : List Value := [.string p.1.1, p.2]
/-- Lines in a row. -/
def LinesR (w : World) (v : Value) (bk : List (ByteArray × ByteArray × ByteArray)) : Prop := RowV w v 3 bk.length (bk.flatMap lnC) ∧ Whole0 v
/-- Keys in a row. -/
def KeysY (w : World) (v : Value) (ks : List (ByteArray × List Nat)) (ys : List Value) : Prop :=
  ys.length = ks.length ∧ RowV w v 2 ks.length ((ks.zip ys).flatMap kyC) ∧ Whole0 v ∧ ∀ p ∈ ks.zip ys, Bytes w p.2 p.1.2 ∧ Whole0 p.2
def KeysR (w : World) (v : Value) (ks : List (ByteArray × List Nat)) : Prop := ∃ ys : List Value, KeysY w v ks ys
theorem LinesR.lines {w : World} {v : Value} {bk : List (ByteArray × ByteArray × ByteArray)} (h : LinesR w v bk) : LinesV w v bk := by
  obtain ⟨⟨_, a, g, o, c, rfl, h2, h3⟩, _⟩ := h
  refine ⟨a, g, o, c, rfl, h2, fun j hj => ?_⟩
  have hx : bk[j]? = some (bk.getD j l0) := by rw [List.getD_eq_getElem?_getD, List.getElem?_eq_getElem hj]; rfl
  have e := fun i hi => h3 (j * 3 + i) ((lnC (bk.getD j l0)).getD i undef) (by
    rw [flat_at lnC 3 (fun _ => rfl) bk j _ i hx hi]; exact getD_some (by simpa [lnC] using hi))
  exact ⟨e 0 (by decide), by have := e 1 (by decide); rw [← Nat.add_assoc] at this; exact this, by have := e 2 (by decide); rw [← Nat.add_assoc] at this; exact this⟩
theorem KeysR.keys {w : World} {v : Value} {ks : List (ByteArray × List Nat)} (h : KeysR w v ks) : KeysV w v ks := by
  obtain ⟨ys, hl, ⟨_, a, g, o, c, rfl, h2, h3⟩, _, h5⟩ := h
  refine ⟨a, g, o, c, rfl, h2, fun j hj => ?_⟩
  have hj2 : j < ys.length := by omega
  have hx : (ks.zip ys)[j]? = some (ks.getD j k0, ys.getD j undef) := by
    rw [List.getElem?_zip_eq_some, List.getD_eq_getElem?_getD, List.getD_eq_getElem?_getD, List.getElem?_eq_getElem hj, List.getElem?_eq_getElem hj2]
    exact ⟨rfl, rfl⟩
  have e := fun i hi => h3 (j * 2 + i) ((kyC (ks.getD j k0, ys.getD j undef)).getD i undef) (by
    rw [flat_at kyC 2 (fun _ => rfl) (ks.zip ys) j _ i hx hi]; exact getD_some (by simpa [kyC] using hi))
  have hm := h5 _ (List.mem_of_getElem? hx)
  exact ⟨ys.getD j undef, e 0 (by decide), by have := e 1 (by decide); rw [← Nat.add_assoc] at this; exact this, hm.1, hm.2⟩
theorem LinesR.grown {w w' : World} {v : Value} {bk : List (ByteArray × ByteArray × ByteArray)} (h : LinesR w v bk) (hg : w.grownBy w' none) : LinesR w' v bk := ⟨h.1.grown hg, h.2⟩
theorem KeysR.grown {w w' : World} {v : Value} {ks : List (ByteArray × List Nat)} (h : KeysR w v ks) (hg : w.grownBy w' none) : KeysR w' v ks := by
  obtain ⟨ys, h1, h2, h3, h4⟩ := h
  exact ⟨ys, h1, h2.grown hg, h3, fun p hp => ⟨(h4 p hp).1.grown hg, (h4 p hp).2⟩⟩
theorem lines_nil (w : World) : LinesR w (.slice none 0 0) [] := ⟨⟨rfl, none, 0, 0, 0, rfl, fun h => absurd h (by simp), fun j v h => by simp at h⟩, fun n c h => by cases h; exact ⟨rfl, rfl⟩⟩
theorem keys_nil (w : World) : KeysY w (.slice none 0 0) [] [] := ⟨rfl, ⟨rfl, none, 0, 0, 0, rfl, fun h => absurd h (by simp), fun j v h => by simp at h⟩, fun n c h => by cases h; exact ⟨rfl, rfl⟩, fun p hp => by simp at hp⟩
theorem row_own {w : World} {base : Nat} {e : TypeId} {sz n : Nat} {v : Value} {xs : List Value} (h : w.ownsRow base e sz v n xs) : RowV w v sz n xs := by
  obtain ⟨a, g, c, rfl, _, _, h1, h2, h3⟩ := own_formN h
  refine ⟨h.1, a, g, 0, c, rfl, fun hn => ⟨(h3 hn).1, (h3 hn).2.1⟩, fun j v hj => ?_⟩
  have hn : 0 < n := by
    rcases Nat.eq_zero_or_pos n with h0 | h0
    · subst h0
      have := (List.getElem?_eq_some_iff.1 hj).1
      rw [h.1] at this; omega
    · exact h0
  rw [Nat.zero_add]
  exact (h3 hn).2.2.1 j v hj
theorem whole_own {w : World} {base : Nat} {e : TypeId} {sz n : Nat} {v : Value} {xs : List Value} (h : w.ownsRow base e sz v n xs) : Whole0 v := fun k c hv => by
  obtain ⟨a, g, c', rfl, _, _, h1, _⟩ := own_formN h
  cases hv
  exact h1 rfl
/-- The document's ring in block m: of F's blocks and what is older; of all these m alone is ever turned. -/
structure RefG (W0 : World) (F : Nat → Prop) (m : Nat) (s : Rg) (w : World) : Prop where
  base : W0.grownBy w none
  big : W0.heap.size ≤ m
  mem : F m
  lt : ∀ k, F k → k < w.heap.size
  body : ∃ kv bv ys, w.heap[m]? = some (.cells #[kv, bv] 43 (0, 0)) ∧ Sup (fun k => F k ∧ k ≠ m) w (fun W => KeysY W kv s.ks ys ∧ LinesR W bv s.bk)
section
variable {A : Nat → Addr} {W0 w w' : World} {F : Nat → Prop} {m : Nat} {s : Rg}
theorem RefG.other {G : Nat → Prop} (h : RefG W0 F m s w) (hG : ∀ k, G k → W0.heap.size ≤ k) (hu : Upto G w w') (ha : ∀ k, G k → ¬ F k) : RefG W0 F m s w' := by
  obtain ⟨kv, bv, ys, h1, h2⟩ := h.body
  exact ⟨hu.base h.base hG, h.big, h.mem, fun k hk => Nat.lt_of_lt_of_le (h.lt k hk) hu.size, kv, bv, ys, (hu.block m (h.lt m h.mem) (fun hg => ha m hg h.mem)).trans h1, h2.upto hu (fun k hk hg => ha k hg hk.1)⟩
theorem RefG.still (h : RefG W0 F m s w) (hg : w.grownBy w' none) : RefG W0 F m s w' :=
  h.other (G := fun _ => False) (fun _ h => h.elim) (Upto.of_grown _ hg) (fun _ h => h.elim)
theorem RefG.new (hb : W0.grownBy w none) (hw : w' = w.alloc (.cells #[.slice none 0 0, .slice none 0 0] 43)) : RefG W0 (fun k => k = w.heap.size) w.heap.size Rg.none w' := by
  subst hw
  exact ⟨grown_alloc hb _, hb.size, rfl, fun k hk => by rw [hk, alloc_size]; omega, _, _, [], alloc_at _ _, ⟨fun k hk => by rw [hk.1, alloc_size]; omega, fun W _ => ⟨keys_nil W, lines_nil W⟩⟩⟩
end
end Go.Proofs.YtgdnndapmcjoeaaDoor
namespace Go.Proofs.YtgdnndapmcjoeaaDoor
open Go.RowKit Go.Maps
set_option linter.unusedVariables false
section
variable {A : Nat → Addr} {W0 w w' : World} {F : Nat → Prop} {m : Nat} {s : Rg}
theorem rg_new {w : World} {F : Nat → Prop} {m : Nat} {kv bv kv' bv' : Value} {ys' : List Value} {W0 w9 w' : World} {s s' : Rg} (h : RefG W0 F m s w) (hg : w.grownBy w9 none) (hb : w9.heap[m]? = some (.cells #[kv, bv] 43 (0, 0))) (i : Nat) (x : Value) (hw' : w' = w9.setCell ⟨m, i, none⟩ x)
    (hb' : (#[kv, bv] : Array Value).setIfInBounds i x = #[kv', bv']) (hs : ∀ W, (∀ k, k < w9.heap.size → k ≠ m → (w.heap.size ≤ k ∨ F k) → W.heap[k]? = w9.heap[k]?) → w9.heap.size ≤ W.heap.size → KeysY W kv' s'.ks ys' ∧ LinesR W bv' s'.bk) :
    Upto (fun k => k = m) w w' ∧ RefG W0 (fun k => F k ∨ w.heap.size ≤ k ∧ k < w'.heap.size) m s' w' := by
  have hmw := h.lt m h.mem
  have hu : Upto (fun k => k = m) w w' := by
    subst hw'
    refine ⟨hg.os, hg.tape, hg.output, by rw [setCell_size]; exact hg.size, fun k hk hn => ?_⟩
    exact (Below.heap_setCell _ _ _ _ hn).trans (hg.block k hk (by simp))
  refine ⟨hu, hu.base h.base (fun k hk => by rw [hk]; exact h.big), h.big, .inl h.mem, fun k hk => ?_, kv', bv', ys', ?_, fun k hk => ?_, fun W hW => ?_⟩
  · rcases hk with hk | hk
    · exact Nat.lt_of_lt_of_le (h.lt k hk) hu.size
    · exact hk.2
  · subst hw'
    have := setCell_heap (i := i) hb x
    rw [hb'] at this
    exact this
  · rcases hk.1 with hk | hk
    · exact Nat.lt_of_lt_of_le (h.lt k hk) hu.size
    · exact hk.2
  · refine hs W (fun k hk hn hf => ?_) ?_
    · have e : w'.heap[k]? = w9.heap[k]? := by subst hw'; exact Below.heap_setCell _ _ _ _ hn
      refine (hW.block k ⟨?_, hn⟩).trans e
      rcases hf with hf | hf
      · exact .inr ⟨hf, by subst hw'; rw [setCell_size]; exact hk⟩
      · exact .inl hf
    · have := hW.size
      subst hw'
      rw [setCell_size] at this
      exact this
theorem own_low {w : World} {b b' : Nat} {e : TypeId} {sz n : Nat} {v : Value} {xs : List Value} (h : w.ownsRow b e sz v n xs) (hb : b' ≤ b) : w.ownsRow b' e sz v n xs :=
  ⟨h.1, h.2.imp id (fun ⟨g, cap, cur, h1, h2, r⟩ => ⟨g, cap, cur, h1, Nat.le_trans hb h2, r⟩)⟩
theorem row_keep {W w : World} {v : Value} {sz n : Nat} {xs : List Value} (h : RowV w v sz n xs) (hs : w.heap.size ≤ W.heap.size) (hk : 0 < n → ∀ k, At v k → W.heap[k]? = w.heap[k]?) : RowV W v sz n xs := by
  obtain ⟨hl, a, g, o, c, rfl, h2, h3⟩ := h
  refine ⟨hl, a, g, o, c, rfl, fun hn => ⟨(h2 hn).1, Nat.lt_of_lt_of_le (h2 hn).2 hs⟩, fun j v hj => ?_⟩
  have hn : 0 < n := by
    rcases Nat.eq_zero_or_pos n with h0 | h0
    · subst h0
      have := (List.getElem?_eq_some_iff.1 hj).1
      omega
    · exact h0
  rw [World.cell?_of_block (hk hn g ⟨_, _, _, by rw [(h2 hn).1], rfl⟩)]
  exact h3 j v hj
theorem own_at {w : World} {base : Nat} {e : TypeId} {sz n : Nat} {v : Value} {xs : List Value} (h : w.ownsRow base e sz v n xs) {k : Nat} (hk : At v k) : base ≤ k ∧ k < w.heap.size ∧ ∃ cur, w.heap[k]? = some (.cells cur e (0, 0)) := by
  obtain ⟨a, n', c, hv, rfl⟩ := hk
  rcases h.2 with ⟨h1, _⟩ | ⟨g, cap, cur, h1, h2, h3, _⟩
  · rw [hv] at h1; cases h1
  · rw [hv] at h1
    injection h1 with h1
    injection h1 with h1
    subst h1
    exact ⟨h2, blk_lt h3, cur, h3⟩
set_option maxRecDepth 100000 in
set_option maxHeartbeats 1000000 in
theorem rgAdd_walk (w : World) (m : Nat) (kv bv : Value) (va : Option Addr) (vc : Nat) (k : List Nat) (n : Nat) (XS : List Value) (hB : Bytes w (.slice va 32 vc) k) (hB0 : Whole0 (.slice va 32 vc)) (hk : k.length = 32) (hb : w.heap[m]? = some (.cells #[kv, bv] 43 (0, 0)))
    (hR : RowV w kv 2 n XS) (hR0 : Whole0 kv) (hR1 : ∀ y ∈ XS, y.oneCell' = true) (hn : n ≤ 1000) (ks : List (ByteArray × List Nat)) (hK : KeysV w kv ks) (hl : ks.length ≤ 1000) (hfd : fd ks (idText k) = none) :
    Calls Tryd.prog 23 #[.pointer (some ⟨m, 0, none⟩), .slice va 32 vc] w fun e w' => e = .returned (.string (idText k)) ∧ ∃ w9 v9 g7 c7, w' = w9.setCell ⟨m, 0, none⟩ v9 ∧ w.grownBy w9 none ∧ w9.ownsRow w.heap.size 93 2 v9 (n + 1) (XS ++ [.string (idText k), .slice (some ⟨g7, 0, none⟩) 32 c7]) ∧ w9.ownsRow w.heap.size 5 1 (.slice (some ⟨g7, 0, none⟩) 32 c7) 32 (cellsL k) := by
  have HB := Lib.hid hB
  have HB0 := Lib.hid hB0
  have HK := Lib.hid hk
  have HBb := Lib.hid hb
  have HR := Lib.hid hR
  have HR0 := Lib.hid hR0
  have HR1 := Lib.hid hR1
  have HN := Lib.hid hn
  have HID := Lib.hid (refID_any (.slice va 32 vc) k w hB hB0 (by omega))
  obtain ⟨I, hI⟩ : ∃ I, I = idText k := ⟨_, rfl⟩
  rw [← hI] at HID hfd ⊢
  have HFd : Hid (∀ W, w.grownBy W none → Calls Tryd.prog 37 #[.pointer (some ⟨m, 0, none⟩), .string I] W fun e w' => e = .returned (.tuple #[.slice none 0 0, .bool false]) ∧ W.grownBy w' none) := Lib.hid (fun W hW => (find_any W m kv bv ks I ((hW.block _ (blk_lt hb) (by simp)).trans hb) (hK.grown hW) (by omega)).mono (fun e w' h => by
    unfold FdPost at h
    rw [hfd] at h
    exact ⟨h.2, h.1⟩))
  have HU := Lib.hid uInfo
  have HKI := Lib.hid kKeyInfo
  clear hB hB0 hk hb hI hR hR0 hR1 hn hK hl hfd
  go_enter Tryd.func23, Tryd.ntmps23
  go_wp2_with (first
    | (go_at_call 36; refine HID.out.mono ?_; rintro e w1 ⟨rfl, hg1⟩; have G1 := Lib.hid hg1; clear hg1)
    | (go_at_call 37; refine (HFd.out w1 G1.out).mono ?_; rintro e w2 ⟨rfl, hg2⟩; have G2 := Lib.hid (grown_trans G1.out hg2); have c2 : (w2.alloc (.cells #[] 93)).cell? ⟨m, 0, none⟩ = some kv := cell_blk (alloc_keep ((G2.out.block _ (blk_lt HBb.out) (by simp)).trans HBb.out)) 0 rfl; have mlt : m < w2.heap.size := Nat.lt_of_lt_of_le (blk_lt HBb.out) G2.out.size; have Mlt := Lib.hid mlt; clear hg2)
    | (obtain ⟨w3, hw3⟩ : ∃ w3, w3 = w2.alloc (.cells #[] 93) := ⟨_, rfl⟩
       rw [← hw3]
       have g3 : w2.grownBy w3 none := (by rw [hw3]; exact World.grownBy_alloc _ _ _)
       have G3 := Lib.hid g3
       have o3 : w3.ownsRow w2.heap.size 93 2 (.slice (some ⟨w2.heap.size, 0, none⟩) 0 0) 0 [] := own_emptyN (by rw [hw3]; exact alloc_at _ _) (Nat.le_refl _)
       have O3 := Lib.hid o3
       clear hw3 g3 o3 c2
       refine wpList_appN3 (by rfl) (.tmp 19) (.tmp 23) 40 (by rfl) w2.heap.size 93 _ 2 40 Tryd.underlying40 HKI.out rfl (by decide) (by decide) _ 0 [] (by rfl) O3.out kv n XS (by rfl) (HR.out.grown (grown_trans G2.out G3.out)) HR0.out HR1.out (by have := HN.out; omega) G3.out.size ?_
       intro v4 w4 ho4 hg4 _
       rw [Nat.zero_add, List.nil_append] at ho4
       have O4 := Lib.hid ho4
       have N4 : Hid (w2.grownBy w4 none) := Lib.hid (grown_own G3.out O3.out (Nat.le_refl _) hg4)
       clear ho4 hg4)
    | (obtain ⟨w5, hw5⟩ : ∃ w5, w5 = w4.alloc (.cells #[] 5) := ⟨_, rfl⟩
       rw [← hw5]
       have g5 : w4.grownBy w5 none := (by rw [hw5]; exact World.grownBy_alloc _ _ _)
       have G5 := Lib.hid g5
       have l5 : w5.ownsRow w4.heap.size 5 1 (.slice (some ⟨w4.heap.size, 0, none⟩) 0 0) 0 [] := ownsRow_lit (cs := #[]) (by rw [hw5]; exact alloc_at _ _) (Nat.le_refl _) (by simp)
       have L5 := Lib.hid l5
       clear hw5 g5 l5
       refine wpList_appB (by rfl) (.tmp 26) (.tmp 27) 22 (by rfl) w4.heap.size 5 _ 1 Tryd.underlying22 HU.out rfl (by decide) _ 0 [] (by rfl) L5.out _ k (by rfl) (HB.out.grown (grown_trans G2.out (grown_trans N4.out G5.out))) HB0.out (by rw [HK.out]; decide) G5.out.size ?_
       intro v7 w7 ho7 hg7
       rw [HK.out, Nat.zero_add, List.nil_append] at ho7
       obtain ⟨a7, g7, c7, rfl, -, -, hp7, -⟩ := ownsRow_form ho7
       obtain ⟨rfl, -⟩ := hp7 (by decide)
       clear hp7
       have O7 := Lib.hid ho7
       have K7 : Hid (w7.ownsRow w2.heap.size 93 2 v4 n XS) := Lib.hid ((O4.out.kept G5.out (Classical.em _)).kept hg7 (.inr (fun e => rows_unlike (O4.out.kept G5.out (Classical.em _)) L5.out (by decide) e rfl)))
       have N7 : Hid (w2.grownBy w7 none) := Lib.hid (grown_trans N4.out (grown_own G5.out L5.out (Nat.le_refl _) hg7))
       clear ho7 hg7)
    | (obtain ⟨w8, hw8⟩ : ∃ w8, w8 = w7.alloc (.cells #[.string I, .slice (some ⟨g7, 0, none⟩) 32 c7] 93) := ⟨_, rfl⟩
       rw [← hw8]
       have g8 : w7.grownBy w8 none := (by rw [hw8]; exact World.grownBy_alloc _ _ _)
       have b8 : w8.heap[w7.heap.size]? = some (.cells #[.string I, .slice (some ⟨g7, 0, none⟩) 32 c7] 93 (0, 0)) := (by rw [hw8]; exact alloc_at _ _)
       have G8 := Lib.hid g8
       clear hw8
       refine wpList_appN2 (by rfl) (.tmp 24) (.tmp 30) 40 (by rfl) w2.heap.size 93 _ 2 40 Tryd.underlying40 HKI.out rfl (by decide) (by decide) _ n XS (by rfl) (K7.out.kept g8 (Classical.em _)) ⟨w7.heap.size, 0, none⟩ 1 1 [.string I, .slice (some ⟨g7, 0, none⟩) 32 c7] (by rfl) rfl (by intro j u hj; rw [addr_addO, Nat.zero_add]; exact cell_blk b8 j (by simpa using hj)) (by intro u hu; simp at hu; rcases hu with rfl | rfl <;> rfl) (by have := HN.out; omega) (Nat.le_trans N7.out.size g8.size) ?_
       intro v9 w9 ho9 hg9 _
       obtain ⟨a9, g9, c9, rfl, -⟩ := own_formN ho9
       have O9 := Lib.hid ho9
       have Y9 : Hid (w9.ownsRow w4.heap.size 5 1 (.slice (some ⟨g7, 0, none⟩) 32 c7) 32 (cellsL k)) := Lib.hid ((O7.out.kept g8 (Classical.em _)).kept hg9 (.inr (fun e => by
         have ho7 := O7.out.kept g8 (Classical.em _)
         exact rows_unlike ho7 (K7.out.kept g8 (Classical.em _)) (by decide) rfl e.symm)))
       have N9 : Hid (w2.grownBy w9 none) := Lib.hid (grown_own (grown_trans N7.out g8) (K7.out.kept g8 (Classical.em _)) (Nat.le_refl _) hg9)
       clear ho9 hg9 g8 b8)
    | (refine wpList_store_c (by rfl) 40 (.tmp 33) (.tmp 31) (by rfl) m 0 _ (by rfl) (by rfl) (there_blk ((N9.out.block _ Mlt.out (by simp)).trans ((G2.out.block _ (blk_lt HBb.out) (by simp)).trans HBb.out)) 0 1 (by show 0 + 1 ≤ 2; decide)) (by kernel_rfl) (by rfl) ?_))
  go_ret
  exact ⟨rfl, w9, _, g7, c7, rfl, grown_trans G2.out N9.out, own_low O9.out G2.out.size, own_low Y9.out (Nat.le_trans G2.out.size N4.out.size)⟩
theorem bytes_keep {W w : World} {v : Value} {l : List Nat} (h : Bytes w v l) (hs : w.heap.size ≤ W.heap.size) (hk : 0 < l.length → ∀ k, At v k → W.heap[k]? = w.heap[k]?) : Bytes W v l := by
  obtain ⟨h1, a, sb, so, c, rfl, h3, h4, h5⟩ := h
  refine ⟨h1, a, sb, so, c, rfl, h3, fun hp => ⟨(h4 hp).1, Nat.lt_of_lt_of_le (h4 hp).2 hs⟩, fun j hj => ?_⟩
  have hp : 0 < l.length := by omega
  rw [World.cell?_of_block (hk hp sb ⟨_, _, _, by rw [(h4 hp).1], rfl⟩)]
  exact h5 j hj
set_option maxRecDepth 100000 in
set_option maxHeartbeats 400000 in
theorem rgAdd_has (w : World) (m : Nat) (kv bv : Value) (va : Option Addr) (vc : Nat) (k k0 : List Nat) (hB : Bytes w (.slice va 32 vc) k) (hB0 : Whole0 (.slice va 32 vc)) (hk : k.length = 32) (hb : w.heap[m]? = some (.cells #[kv, bv] 43 (0, 0)))
    (ks : List (ByteArray × List Nat)) (hK : KeysV w kv ks) (hl : ks.length ≤ 1000) (hfd : fd ks (idText k) = some k0) :
    Calls Tryd.prog 23 #[.pointer (some ⟨m, 0, none⟩), .slice va 32 vc] w fun e w' => e = .returned (.string (idText k)) ∧ w.grownBy w' none := by
  have HID := Lib.hid (refID_any (.slice va 32 vc) k w hB hB0 (by omega))
  obtain ⟨I, hI⟩ : ∃ I, I = idText k := ⟨_, rfl⟩
  rw [← hI] at HID hfd ⊢
  have HFd : Hid (∀ W, w.grownBy W none → Calls Tryd.prog 37 #[.pointer (some ⟨m, 0, none⟩), .string I] W fun e w' => (∃ y, e = .returned (.tuple #[y, .bool true])) ∧ W.grownBy w' none) := Lib.hid (fun W hW => (find_any W m kv bv ks I ((hW.block _ (blk_lt hb) (by simp)).trans hb) (hK.grown hW) (by omega)).mono (fun e w' h => by
    unfold FdPost at h
    rw [hfd] at h
    obtain ⟨h1, y, h2, _⟩ := h
    exact ⟨⟨y, h2⟩, h1⟩))
  clear hB hB0 hk hb hI hK hl hfd
  go_enter Tryd.func23, Tryd.ntmps23
  go_wp2_with (first
    | (go_at_call 36; refine HID.out.mono ?_; rintro e w1 ⟨rfl, hg1⟩; have G1 := Lib.hid hg1; clear hg1)
    | (go_at_call 37; refine (HFd.out w1 G1.out).mono ?_; rintro e w2 ⟨⟨y, rfl⟩, hg2⟩; have G2 := Lib.hid (grown_trans G1.out hg2); clear hg2))
  go_ret
  exact ⟨rfl, G2.out⟩
/-- A key is put in. -/
theorem rgAdd (h : RefG W0 F m s w) (hgs : GoodG s) (va : Option Addr) (vc : Nat) (k : List Nat) (hB : Bytes w (.slice va 32 vc) k) (hB0 : Whole0 (.slice va 32 vc)) (hk : k.length = 32) (hl : s.ks.length ≤ 1000) :
    Calls Tryd.prog 23 #[.pointer (some ⟨m, 0, none⟩), .slice va 32 vc] w fun e w' => e = .returned (.string (idText k)) ∧ Upto (fun k => k = m) w w' ∧ RefG W0 (fun k => F k ∨ w.heap.size ≤ k ∧ k < w'.heap.size) m (s.add (idText k) k) w' := by
  obtain ⟨kv, bv, ys, h1, h2⟩ := h.body
  obtain ⟨hKR, hLR⟩ := h2.now
  cases hg : s.get (idText k) with
  | some k0 =>
    refine (rgAdd_has w m kv bv va vc k k0 hB hB0 hk h1 s.ks (KeysR.keys ⟨ys, hKR⟩) hl hg).mono ?_
    rintro e w' ⟨he, hgr⟩
    refine ⟨he, Upto.of_grown _ hgr, ?_⟩
    rw [Rg.add_has hg]
    have h' := h.still hgr
    obtain ⟨kv', bv', ys', k1, k2⟩ := h'.body
    refine ⟨h'.base, h'.big, .inl h'.mem, fun k hk => hk.elim (fun hk => h'.lt k hk) (fun hk => hk.2), kv', bv', ys', k1, k2.mono (fun k hk => ⟨.inl hk.1, hk.2⟩) (fun k hk => hk.1.elim (fun hk => h'.lt k hk) (fun hk => hk.2))⟩
  | none =>
    obtain ⟨hyl, hRow, hW0, hys⟩ := hKR
    have hones : ∀ y ∈ (s.ks.zip ys).flatMap kyC, y.oneCell' = true := fun y hy => by
      obtain ⟨p, hp, hy⟩ := List.mem_flatMap.1 hy
      simp only [kyC, List.mem_cons, List.not_mem_nil, or_false] at hy
      rcases hy with rfl | rfl
      · rfl
      · obtain ⟨⟨_, _, _, _, _, e, _⟩, _⟩ := hys p hp
        rw [e]; rfl
    refine (rgAdd_walk w m kv bv va vc k _ _ hB hB0 hk h1 hRow hW0 hones hl s.ks (KeysR.keys ⟨ys, hyl, hRow, hW0, hys⟩) hl hg).mono ?_
    rintro e w' ⟨he, w9, v9, g7, c7, hw', hgr, ho9, hy9⟩
    refine ⟨he, ?_⟩
    have hsup : Sup (fun k => F k ∧ k ≠ m) w9 (fun W => KeysY W kv s.ks ys ∧ LinesR W bv s.bk) := h2.grown hgr
    refine rg_new h hgr ((hgr.block _ (blk_lt h1) (by simp)).trans h1) 0 v9 hw' (kv' := v9) (bv' := bv) (ys' := ys ++ [.slice (some ⟨g7, 0, none⟩) 32 c7]) (by simp) (fun W hWk hWs => ?_)
    have hag : Agree (fun k => F k ∧ k ≠ m) w9 W := ⟨hWs, fun k hk => hWk k (hsup.lt k hk) hk.2 (.inr hk.1)⟩
    obtain ⟨hKW, hLW⟩ := hsup.holds W hag
    have hmw := h.lt m h.mem
    have keep : ∀ {e : TypeId} {sz n : Nat} {v : Value} {xs : List Value}, w9.ownsRow w.heap.size e sz v n xs → ∀ k, At v k → W.heap[k]? = w9.heap[k]? := fun ho k hk => by
      obtain ⟨a1, a2, _⟩ := own_at ho hk
      exact hWk k a2 (by omega) (.inl a1)
    refine ⟨?_, by rw [Rg.add_bk]; exact hLW⟩
    rw [Rg.add_new hg]
    have h8 := hB.lt
    refine ⟨by simp [hyl], ?_, whole_own ho9, ?_⟩
    · rw [List.zip_append hyl.symm, List.flatMap_append]
      have e : (s.ks ++ [(idText k, k)]).length = s.ks.length + 1 := by simp
      show RowV W v9 2 (s.ks ++ [(idText k, k)]).length _
      rw [e]
      exact row_keep (row_own ho9) hWs (fun _ => keep ho9)
    · intro p hp
      have hp : p ∈ (s.ks ++ [(idText k, k)]).zip (ys ++ [.slice (some ⟨g7, 0, none⟩) 32 c7]) := hp
      rw [List.zip_append hyl.symm] at hp
      rcases List.mem_append.1 hp with hp | hp
      · exact hKW.2.2.2 p hp
      · simp at hp
        subst hp
        refine ⟨bytes_keep (Bytes.own hy9 h8) hWs (fun _ => keep hy9), Whole0.some _ _ _⟩
end
end Go.Proofs.YtgdnndapmcjoeaaDoor
