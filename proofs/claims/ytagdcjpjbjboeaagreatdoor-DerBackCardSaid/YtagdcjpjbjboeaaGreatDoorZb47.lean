import Derived.Test.YtagdcjpjbjboeaaGreatDoorZb03
import Derived.Test.YtagdcjpjbjboeaaGreatDoorZb27
import Derived.Test.YtagdcjpjbjboeaaGreatDoorZb38
import Derived.Test.YtagdcjpjbjboeaaGreatDoorZb39
import Derived.Test.YtagdcjpjbjboeaaGreatDoorZb42
import Derived.Test.YtagdcjpjbjboeaaGreatDoorZb46
namespace Go.Proofs.YtagdcjpjbjboeaaGreatDoor
open Go.RowKit
set_option linter.unusedVariables false
/-- The law's get at all kinds of values. -/
theorem lget_any {A : Nat → Addr} {W0 w : World} {F : Nat → Prop} {b : Nat} {s : De.Rd} (h : PrR A W0 F b s w) (hA : ReadsOf A W0) (hnx : ∀ l, Top1 s l → l.length ≤ 1000) (k tag least most : Int) (hk : 3 ≤ k ∧ k ≤ 10) (hm : inT most) :
    Calls Tryz.prog 21 #[.pointer (some ⟨b, 0, none⟩), .agg #[.int .i64 k, .int .i64 tag, .int .i64 least, .int .i64 most]] w fun e w' => ∃ v, e = .returned v ∧ GotPost A W0 F b s k tag least most w w' v := by
  obtain ⟨h1, h2⟩ := hk
  rcases (by omega : k = 3 ∨ k = 4 ∨ k = 5 ∨ k = 6 ∨ k = 7 ∨ k = 8 ∨ k = 9 ∨ k = 10) with rfl | rfl | rfl | rfl | rfl | rfl | rfl | rfl
  · exact lget_Int h hA hnx tag least most hm
  · exact lget_Enum h hA hnx tag least most hm
  · exact lget_Bool h hA hnx tag least most hm
  · exact lget_Octets h hA hnx tag least most hm
  · exact lget_Text h hA hnx tag least most hm
  · exact lget_OID h hA hnx tag least most hm
  · exact lget_Moment h hA hnx tag least most hm
  · exact lget_Flags h hA hnx tag least most hm
/-- A value with its cells. -/
structure VC where
  x : De.Val
  a : Option Addr
  c : Nat
namespace VC
def cells (y : VC) : List Value := [.int .i64 y.x.kind, .int .i64 y.x.n, .bool y.x.is, .slice y.a y.x.b.length y.c, .string (strOf y.x.t)]
def vals (l : List VC) : List De.Val := l.map (·.x)
end VC
/-- A value that is taken. -/
def TakenV (w : World) (y : VC) : Prop := De.Fit y.x ∧ De.has y.x = true ∧ ∀ W, w.grownBy W none → Bytes W (.slice y.a y.x.b.length y.c) y.x.b ∧ Whole0 (.slice y.a y.x.b.length y.c)
def st8 (l : List VC) : De.St := (VC.vals l).foldl De.step (De.opn De.St.zero 48)
theorem st8_is {w : World} {l : List VC} (h : ∀ y ∈ l, TakenV w y) : st8 l = ⟨0, [(48, (VC.vals l).map De.elemOf)], []⟩ := by
  unfold st8
  rw [show De.opn De.St.zero 48 = ⟨0, (48, []) :: [], []⟩ from rfl, De.steps_open _ [] (fun v hv => by
    obtain ⟨y, hy, rfl⟩ := List.mem_map.1 hv
    exact ⟨(h y hy).1, (h y hy).2.1⟩), List.nil_append]
theorem st8_snoc (l : List VC) (y : VC) : st8 (l ++ [y]) = De.step (st8 l) y.x := by
  unfold st8 VC.vals
  rw [List.map_append, List.foldl_append]; rfl
theorem lim_fold : ∀ (l : List De.Val) (m : Nat) (s : De.St), Lim m s → Lim (l.length + m) (l.foldl De.step s)
  | [], m, s, h => by simpa using h
  | v :: r, m, s, h => by
    rw [List.foldl_cons, List.length_cons, show r.length + 1 + m = r.length + (m + 1) by omega]
    exact lim_fold r (m + 1) _ h.step
theorem st8_lim (l : List VC) : Lim (l.length + 1) (st8 l) := by
  have := lim_fold (VC.vals l) 1 _ (Lim.zero.step (x := { De.none0 with kind := 1, n := 48 }))
  unfold VC.vals at this
  rw [List.length_map] at this
  exact this
theorem st8_made {w : World} {l : List VC} (h : ∀ y ∈ l, TakenV w y) : ∀ p ∈ (st8 l).op, Tl.made (p.1 : Nat) = true := fun p hp => by
  rw [st8_is h] at hp
  have hp : p ∈ [(48, (VC.vals l).map De.elemOf)] := hp
  simp at hp
  rw [hp]; show Tl.made ((48 : Nat) : Int) = true; decide
theorem vc_cells_one (y : VC) : ∀ u ∈ y.cells, u.oneCell' = true := fun u hu => by
  simp only [VC.cells, List.mem_cons, List.not_mem_nil, or_false] at hu
  rcases hu with rfl | rfl | rfl | rfl | rfl <;> rfl
theorem row_grown {w w' : World} {base : Nat} {e : TypeId} {sz : Nat} {v : Value} {n : Nat} {xs : List Value} (h : w.ownsRow base e sz v n xs) (hg : w.grownBy w' none) : w'.ownsRow base e sz v n xs := own_upto h (Upto.of_grown (fun _ => False) hg) (fun _ _ h => h)
/-- The list's writer, and what was taken. -/
structure BackW (A : Nat → Addr) (W0 : World) (F : Nat → Prop) (b : Nat) (l : List VC) (r : Value) (w : World) : Prop where
  wr : PrW A W0 F b (st8 l) w
  row : w.ownsRow W0.heap.size 41 5 r l.length (l.flatMap VC.cells)
  free : ∀ k, r.ownBlock = some k → ¬ F k
section
variable {A : Nat → Addr} {W0 w w' : World} {F F1 : Nat → Prop} {b b1 : Nat} {l : List VC} {r : Value} {t : De.St}
theorem BackW.still (h : BackW A W0 F b l r w) (hg : w.grownBy w' none) : BackW A W0 F b l r w' :=
  ⟨h.wr.still hg, row_grown h.row hg, h.free⟩
/-- And another writer. -/
structure BackO (A : Nat → Addr) (W0 : World) (F F1 : Nat → Prop) (b b1 : Nat) (l : List VC) (r : Value) (t : De.St) (g : Nat) (cs : Array Value) (w : World) : Prop where
  main : BackW A W0 F b l r w
  one : PrW A W0 F1 b1 t w
  apart : Apart F F1
  free1 : ∀ k, r.ownBlock = some k → ¬ F1 k
  cell : w.heap[g]? = some (.cells cs 41 (0, 0))
  off : ¬ F g ∧ ¬ F1 g
theorem row_upto {w w' : World} {F : Nat → Prop} {base : Nat} {e : TypeId} {sz : Nat} {v : Value} {n : Nat} {xs : List Value} (h : w.ownsRow base e sz v n xs) (hu : Upto F w w') (hf : ∀ k, v.ownBlock = some k → ¬ F k) : w'.ownsRow base e sz v n xs := own_upto h hu hf
theorem BackO.put1 {g : Nat} {cs : Array Value} {v : Value} {t' : De.St} (h : BackO A W0 F F1 b b1 l r t g cs w) (hc : Calls Tryz.prog 26 #[.pointer (some ⟨b1, 0, none⟩), v] w fun e w' => PrPost A W0 F1 b1 w w' t' e) :
    Calls Tryz.prog 26 #[.pointer (some ⟨b1, 0, none⟩), v] w fun e w' => e = .returned (.tuple #[]) ∧ BackO A W0 F (Ext F1 w w') b b1 l r t' g cs w' := by
  refine hc.mono (fun e w' hp => ?_)
  obtain ⟨q1, q2, q3⟩ := hp
  have hgl := blk_lt h.cell
  refine ⟨q1, ⟨h.main.wr.other (fun k hk => (h.one.own k hk).1) (turn_ext q2) h.apart.symm, row_upto h.main.row q2 h.free1, h.main.free⟩, q3, fun k hf hk => ?_, fun k hk hf => ?_, (q2.block g hgl h.off.2).trans h.cell, h.off.1, fun hf => ?_⟩
  · rcases hk with hk | hk
    · exact h.apart k hf hk
    · have := (h.main.wr.own k hf).2; omega
  · rcases hf with hf | hf
    · exact h.free1 k hk hf
    · have := own_lt h.main.row hk; omega
  · rcases hf with hf | hf
    · exact h.off.2 hf
    · omega
theorem BackO.still {g : Nat} {cs : Array Value} (h : BackO A W0 F F1 b b1 l r t g cs w) (hg : w.grownBy w' none) : BackO A W0 F F1 b b1 l r t g cs w' :=
  ⟨h.main.still hg, h.one.still hg, h.apart, h.free1, (hg.block g (blk_lt h.cell) (by simp)).trans h.cell, h.off⟩
/-- The list's writer takes it. -/
theorem BackO.put2 {g : Nat} {cs : Array Value} {v : Value} {y : VC} (h : BackO A W0 F F1 b b1 l r t g cs w) (hc : Calls Tryz.prog 26 #[.pointer (some ⟨b, 0, none⟩), v] w fun e w' => PrPost A W0 F b w w' (De.step (st8 l) y.x) e) :
    Calls Tryz.prog 26 #[.pointer (some ⟨b, 0, none⟩), v] w fun e w' => e = .returned (.tuple #[]) ∧ PrW A W0 (Ext F w w') b (st8 (l ++ [y])) w' ∧ w'.ownsRow W0.heap.size 41 5 r l.length (l.flatMap VC.cells) ∧ (∀ k, r.ownBlock = some k → ¬ (Ext F w w') k) ∧ w'.heap[g]? = some (.cells cs 41 (0, 0)) ∧ ¬ (Ext F w w') g := by
  refine hc.mono (fun e w' hp => ?_)
  obtain ⟨q1, q2, q3⟩ := hp
  have hgl := blk_lt h.cell
  refine ⟨q1, by rw [st8_snoc]; exact q3, row_upto h.main.row q2 h.main.free, fun k hk hf => ?_, (q2.block g hgl h.off.1).trans h.cell, fun hf => ?_⟩
  · rcases hf with hf | hf
    · exact h.main.free k hk hf
    · have := own_lt h.main.row hk; omega
  · rcases hf with hf | hf
    · exact h.off.1 hf
    · omega
/-- It is put behind what was taken. -/
theorem back_appended {y : VC} {w5 w6 : World} {r' : Value} (h : PrW A W0 F b (st8 (l ++ [y])) w) (hrow : w.ownsRow W0.heap.size 41 5 r l.length (l.flatMap VC.cells)) (hfree : ∀ k, r.ownBlock = some k → ¬ F k) (h5 : w.grownBy w5 none)
    (ho : w6.ownsRow W0.heap.size 41 5 r' (l.length + 1) (l.flatMap VC.cells ++ y.cells)) (hg : w5.grownBy w6 r.ownBlock) (hb : r'.ownBlock = r.ownBlock ∨ r'.ownBlock = some w5.heap.size) : BackW A W0 F b (l ++ [y]) r' w6 := by
  have hub : Upto (fun k => r.ownBlock = some k) w5 w6 := Upto.of_row hg (fun k hk => .inl hk)
  refine ⟨(h.still h5).other (G := fun k => r.ownBlock = some k) (G' := fun k => r.ownBlock = some k) (fun k hk => (own_low hrow hk).1) ⟨hub, fun _ _ h => h⟩ (fun k hk hf => hfree k hk hf), ?_, fun k hk hf => ?_⟩
  · rw [List.length_append, List.length_singleton, List.flatMap_append]
    simpa using ho
  · rcases hb with hb | hb
    · exact hfree k (by rw [← hb, hk]) hf
    · rw [hk] at hb
      have e := Option.some.inj hb
      have := (h.own k hf).2
      have := h5.size
      omega
end
theorem own_empty5 {w : World} {base : Nat} (hb : base ≤ w.heap.size) (e : TypeId) : (w.alloc (.cells #[] e)).ownsRow base e 5 (.slice (some ⟨w.heap.size, 0, none⟩) 0 0) 0 [] :=
  ⟨rfl, .inr ⟨w.heap.size, 0, #[], rfl, hb, alloc_at _ _, Nat.le_refl _, by unfold maxLen; omega, rfl, rfl⟩⟩
end Go.Proofs.YtagdcjpjbjboeaaGreatDoor
namespace Go.Proofs.YtagdcjpjbjboeaaGreatDoor
open Go.RowKit
set_option linter.unusedVariables false
theorem ReadsOf.grown {A : Nat → Addr} {w w' : World} (h : ReadsOf A w) (hg : w.grownBy w' none) : ReadsOf A w' :=
  ⟨h.errs.grown hg, fun v l W h1 => h.moment v l W (grown_trans hg h1), fun v l W h1 => h.flags v l W (grown_trans hg h1), fun v s m W h1 h2 h3 => h.text v s m W h1 h2 (grown_trans hg h3), fun v b W h1 => h.oid v b W (grown_trans hg h1)⟩
theorem BodiesOf.grown2 {A : Nat → Addr} {w w' : World} (h : BodiesOf A w) (hg : w.grownBy w' none) : BodiesOf A w' :=
  ⟨h.errs.grown hg, fun s m W h1 h2 h3 => h.texts s m W h1 h2 (grown_trans hg h3), fun m W h1 h2 => h.flags m W h1 (grown_trans hg h2), fun t W h1 h2 => h.moment t W h1 (grown_trans hg h2), fun s W h1 h2 => h.oid s W h1 (grown_trans hg h2)⟩
/-- A value of the list that comes in, with its cells. -/
theorem oneVC {w : World} {sb so j : Nat} {xs : List De.Val} (hV : ValsAt w sb so xs) (hj : j < xs.length) (h300 : (xs.getD j De.none0).t.length ≤ 300) (hsb : sb < w.heap.size) :
    ∃ y : VC, y.x = xs.getD j De.none0 ∧ (∀ W, w.grownBy W none → (W.cell? ⟨sb, so + j * 5, none⟩ = some (.int .i64 y.x.kind) ∧ W.cell? ⟨sb, so + j * 5 + 1, none⟩ = some (.int .i64 y.x.n) ∧ W.cell? ⟨sb, so + j * 5 + 2, none⟩ = some (.bool y.x.is) ∧ W.cell? ⟨sb, so + j * 5 + 3, none⟩ = some (.slice y.a y.x.b.length y.c) ∧ W.cell? ⟨sb, so + j * 5 + 4, none⟩ = some (.string (strOf y.x.t))) ∧ Bytes W (.slice y.a y.x.b.length y.c) y.x.b ∧ Whole0 (.slice y.a y.x.b.length y.c) ∧ ValV W (.agg y.cells.toArray) y.x) ∧ De.I64 y.x.kind ∧ De.I64 y.x.n ∧ ∀ z ∈ y.x.t, z < 256 := by
  obtain ⟨v, S, h0, h1, h2, h3, h4, h5, h6, h7, h8, h9⟩ := hV j hj
  obtain ⟨_, va, _, _, vc, rfl, _⟩ := id h5
  have ht : ∀ z ∈ (xs.getD j De.none0).t, z < 256 := by rw [← h7]; exact strL_lt S
  have hS : S = strOf (xs.getD j De.none0).t := by rw [← h7, strOf_strL]
  refine ⟨⟨xs.getD j De.none0, va, vc⟩, rfl, fun W hW => ?_, h8, h9, ht⟩
  have e : ∀ o, W.cell? ⟨sb, o, none⟩ = w.cell? ⟨sb, o, none⟩ := fun o => World.cell?_of_block (hW.block sb hsb (by simp))
  refine ⟨⟨by rw [e]; exact h0, by rw [e]; exact h1, by rw [e]; exact h2, by rw [e]; exact h3, by rw [e, ← hS]; exact h4⟩, h5.grown hW, h6, _, _, rfl, h5.grown hW, h6, strL_strOf ht, by rw [strOf_size]; show (xs.getD j De.none0).t.length ≤ 1000; omega⟩
theorem flat5 : ∀ (l : List VC) (m q : Nat), m < l.length → q < 5 → (l.flatMap VC.cells)[m * 5 + q]? = (l.getD m ⟨De.none0, none, 0⟩).cells[q]?
  | y :: r, 0, q, _, hq => by
    rw [List.flatMap_cons, List.getElem?_append_left (by show 0 * 5 + q < 5; omega)]
    simp
  | y :: r, m + 1, q, hm, hq => by
    rw [List.flatMap_cons, List.getElem?_append_right (by show 5 ≤ (m + 1) * 5 + q; omega)]
    rw [show (m + 1) * 5 + q - y.cells.length = m * 5 + q from by show (m + 1) * 5 + q - 5 = _; omega, flat5 r m q (by simpa using hm) hq]
    simp
theorem row_at {w : World} {base K rc m : Nat} {ra : Option Addr} {l : List VC} (h : w.ownsRow base 41 5 (.slice ra K rc) K (l.flatMap VC.cells)) (hKl : K = l.length) (hm : m < l.length) :
    ∃ rg, ra = some ⟨rg, 0, none⟩ ∧ w.cell? ⟨rg, m * 5, none⟩ = some (.int .i64 (l.getD m ⟨De.none0, none, 0⟩).x.kind) ∧ w.cell? ⟨rg, m * 5 + 1, none⟩ = some (.int .i64 (l.getD m ⟨De.none0, none, 0⟩).x.n) ∧ w.cell? ⟨rg, m * 5 + 2, none⟩ = some (.bool (l.getD m ⟨De.none0, none, 0⟩).x.is) ∧
      w.cell? ⟨rg, m * 5 + 3, none⟩ = some (.slice (l.getD m ⟨De.none0, none, 0⟩).a (l.getD m ⟨De.none0, none, 0⟩).x.b.length (l.getD m ⟨De.none0, none, 0⟩).c) ∧ w.cell? ⟨rg, m * 5 + 4, none⟩ = some (.string (strOf (l.getD m ⟨De.none0, none, 0⟩).x.t)) := by
  obtain ⟨a, g, c, e, _, _, _, _, hop⟩ := own_formN h
  simp only [Value.slice.injEq] at e
  obtain ⟨rfl, _, _⟩ := e
  obtain ⟨h1, _, h2, _⟩ := hop (by omega)
  exact ⟨g, h1, h2 _ _ (flat5 l m 0 hm (by omega)), h2 _ _ (flat5 l m 1 hm (by omega)), h2 _ _ (flat5 l m 2 hm (by omega)), h2 _ _ (flat5 l m 3 hm (by omega)), h2 _ _ (flat5 l m 4 hm (by omega))⟩
theorem top_short {y : VC} {rest : List Nat} {L : List (List Nat)} (hf : De.Fit y.x) (hh : De.has y.x = true) : ∀ l, Top1 ⟨0, De.elemOf y.x ++ rest, L⟩ l → l.length ≤ 1000 := fun l hl => by
  obtain ⟨t, b, hb⟩ := De.has_ok hh
  obtain ⟨t2, i, n, h1, h2⟩ := hl
  have hk := De.body_tag hf.1 hb
  have hlen := De.body_len hf.2.2.1 hf.2.2.2 hb
  have h1 : Tl.first (De.elemOf y.x ++ rest) = .ok (t2, i, n) := h1
  rw [De.elemOf_ok hb, Tl.first_ok t b rest hk.2.2 (by omega)] at h1
  have h1 := Except.ok.inj h1
  simp only [Prod.mk.injEq] at h1
  rw [h2, List.length_take]
  omega
theorem ask_step {y : VC} {rest : List Nat} {L : List (List Nat)} (hf : De.Fit y.x) (hh : De.has y.x = true) : De.ask ⟨0, De.elemOf y.x ++ rest, L⟩ y.x.kind 0 (-9223372036854775808) 9223372036854775807 = (⟨0, rest, L⟩, De.back y.x) := by
  obtain ⟨t, b, hb⟩ := De.has_ok hh
  have hlen := De.body_len hf.2.2.1 hf.2.2.2 hb
  rw [De.elemOf_ok hb]
  exact De.ask_elem hf.1 hf.2.1 hf.2.2.1 hf.2.2.2 hb (by omega)
theorem max64 : inT 9223372036854775807 := by unfold inT; omega
set_option maxRecDepth 100000 in
set_option maxHeartbeats 4000000 in
theorem derBack_any (A : Nat → Addr) (a : Option Addr) (sb so n c : Nat) (xs : List De.Val) (w : World) (hn : xs.length = n) (ha : 0 < n → a = some ⟨sb, so, none⟩ ∧ sb < w.heap.size) (hV : ValsAt w sb so xs) (hc : n ≤ 9223372036854775807) (hcc : n ≤ c) (hA : BodiesOf A w) (hR : ReadsOf A w) :
    Calls Tryz.prog 4 #[.slice a n c] w fun e w' => e = .returned (.bool true) ∧ w.grownBy w' none := by
  have HAl := Lib.hid (alive8_any A w hA)
  have HLo : Hid (∀ W, w.grownBy W none → Calls Tryz.prog 24 #[.slice a n c] W fun e w' => LongPost W w' n xs e) := Lib.hid (fun W hW => long_any a sb so n c xs W hn (fun h => ⟨(ha h).1, Nat.lt_of_lt_of_le (ha h).2 hW.size⟩) (hV.grown hW (fun h => (ha (by omega)).2)) hc hcc)
  have HV := Lib.hid hV
  have HA := Lib.hid hA
  have HR := Lib.hid hR
  have HAd := Lib.hid ha
  have HN := Lib.hid hn
  have HNc := Lib.hid hcc
  have HI5 : Hid ((Tryz.prog.info? 41).map (fun i => (i.zero, i.size, i.bytes)) = some (some (.agg #[.int .i64 0, .int .i64 0, .bool false, .slice none 0 0, .string ⟨#[]⟩]), 5, 64)) := Lib.hid (by kernel_rfl)
  clear hA hV ha hn hcc hR
  go_enter Tryz.func4, Tryz.ntmps4
  go_wp2_with (first
    | (go_at_call 9; refine HAl.out.mono ?_; rintro e w1 ⟨rfl, hg1⟩; have HG1 := Lib.hid hg1; clear hg1)
    | (go_at_call 24; refine (HLo.out _ HG1.out).mono ?_; rintro e w2 ⟨q, rfl, hg2, hq⟩; have HG2 := Lib.hid (grown_trans HG1.out hg2); have HQ := Lib.hid hq; have HOp : Hid (Calls Tryz.prog 25 #[.pointer (some ⟨w2.heap.size, 0, none⟩), .int .i64 48] (w2.alloc (.cells #[.slice none 0 0, .slice none 0 0, .nilIface] 51)) fun e w' => PrPost A w2 (fun k => k = w2.heap.size) w2.heap.size (w2.alloc (.cells #[.slice none 0 0, .slice none 0 0, .nilIface] 51)) w' (De.opn De.St.zero 48) e) := Lib.hid (prOpen_any (PrW.new (A := A) (grown_refl w2 none)) (HA.out.errs.grown HG2.out) 48); clear hg2 hq)
    | (go_at_call 25; refine HOp.out.mono ?_; rintro e w4 ⟨rfl, hu4, hp4⟩; have HP4 := Lib.hid hp4; clear hu4 hp4))
  · go_ret
    exact ⟨rfl, HG2.out⟩
  · obtain rfl : q = false := by cases q <;> simp_all
    have hq := HQ.out rfl
    have H300 : Hid (∀ j, j < n → (xs.getD j De.none0).b.length ≤ 300 ∧ (xs.getD j De.none0).t.length ≤ 300) := Lib.hid hq.2
    have h60 : n ≤ 60 := hq.1
    have HA2 := Lib.hid (HA.out.grown2 HG2.out)
    obtain ⟨W5, hW5⟩ : ∃ W5, W5 = w4.alloc (.cells #[] 41) := ⟨_, rfl⟩
    rw [← hW5]
    have HB5 : Hid (∃ F, BackW A w2 F w2.heap.size [] (.slice (some ⟨w4.heap.size, 0, none⟩) 0 0) W5) := Lib.hid ⟨_, by
      rw [hW5]
      refine ⟨HP4.out.still (World.grownBy_alloc _ _ _), own_empty5 HP4.out.base.size _, fun k hk hf => ?_⟩
      have e : w4.heap.size = k := Option.some.inj hk
      have := (HP4.out.own k hf).2
      omega⟩
    clear hq HQ HLo HAl hW5 HP4 HOp
    go_loopw [4, 27] (fun r i wr => ∃ (j : Nat) (l : List VC), j ≤ n ∧ i = .int .i64 j ∧ (∃ F, BackW A w2 F w2.heap.size l r wr) ∧ (∀ y ∈ l, TakenV w y) ∧ l.length ≤ j) (fun _ i _ => n - (intOf i).toNat)
    case atStart => exact ⟨0, [], Nat.zero_le _, rfl, HB5.out, by simp, Nat.le_refl _⟩
    case round =>
      obtain ⟨j, l, hj, rfl, ⟨F, hB⟩, hT, hlj⟩ := hrel
      have HB := Lib.hid hB
      have HT := Lib.hid hT
      have HLj := Lib.hid hlj
      have HGr : Hid (w.grownBy wr none) := Lib.hid (grown_trans HG2.out hB.wr.base)
      obtain ⟨ra, rg, rc, rfl, hrc, -, -, -, hrop⟩ := own_formN hB.row
      have HRop := Lib.hid hrop
      have HRc := Lib.hid hrc
      clear hrop hrc hT hlj
      by_cases hjn : j < n
      · have had := HAd.out (by omega)
        obtain ⟨rfl, hsbl⟩ := had
        obtain ⟨y, hyx, hov, hki64, hni64, ht8⟩ := oneVC (j := j) HV.out (by rw [HN.out]; exact hjn) (H300.out j hjn).2 hsbl
        have h300 := H300.out j hjn
        rw [← hyx] at h300
        obtain ⟨⟨c0, c1, c2, c3, c4⟩, hyB, hy0, _⟩ := hov wr HGr.out
        have HVv : Hid (∀ W, w.grownBy W none → ValV W (.agg #[.int .i64 y.x.kind, .int .i64 y.x.n, .bool y.x.is, .slice y.a y.x.b.length y.c, .string (strOf y.x.t)]) y.x) := Lib.hid (fun W hW => (hov W hW).2.2.2)
        have HVb : Hid (∀ W, w.grownBy W none → Bytes W (.slice y.a y.x.b.length y.c) y.x.b ∧ Whole0 (.slice y.a y.x.b.length y.c)) := Lib.hid (fun W hW => ⟨(hov W hW).2.1, (hov W hW).2.2.1⟩)
        have hsw : sb < wr.heap.size := Nat.lt_of_lt_of_le hsbl HGr.out.size
        by_cases hk3 : y.x.kind < 3
        · have HSt := Lib.hid (hB.still (World.grownBy_alloc wr (.cells #[.int .i64 y.x.kind, .int .i64 y.x.n, .bool y.x.is, .slice y.a y.x.b.length y.c, .string (strOf y.x.t)] 41) none))
          generalize y.x.b.length = ylen at *
          generalize strOf y.x.t = yS at *
          clear hov hyB hy0 h300 hyx ht8 hB
          go_wp2
          go_roundw
          case rel => exact ⟨j + 1, l, by omega, by go_num, ⟨F, HSt.out⟩, HT.out, by have := HLj.out; omega⟩
          case measure => simp [intOf]; omega
        · by_cases hk10 : 10 < y.x.kind
          · have HSt := Lib.hid (hB.still (World.grownBy_alloc wr (.cells #[.int .i64 y.x.kind, .int .i64 y.x.n, .bool y.x.is, .slice y.a y.x.b.length y.c, .string (strOf y.x.t)] 41) none))
            generalize y.x.b.length = ylen at *
            generalize strOf y.x.t = yS at *
            clear hov hyB hy0 h300 hyx ht8 hB
            go_wp2
            go_roundw
            case rel => exact ⟨j + 1, l, by omega, by go_num, ⟨F, HSt.out⟩, HT.out, by have := HLj.out; omega⟩
            case measure => simp [intOf]; omega
          · have hfit : De.Fit y.x := ⟨⟨by omega, by omega⟩, hni64, h300.1, h300.2⟩
            have hb60 : l.length ≤ 60 := by have := HLj.out; omega
            obtain ⟨W1, hW1⟩ : ∃ W1, W1 = wr.alloc (.cells #[.int .i64 y.x.kind, .int .i64 y.x.n, .bool y.x.is, .slice y.a y.x.b.length y.c, .string (strOf y.x.t)] 41) := ⟨_, rfl⟩
            have s1 : W1.heap.size = wr.heap.size + 1 := by rw [hW1, alloc_size]
            have g1 : wr.grownBy W1 none := by rw [hW1]; exact World.grownBy_alloc _ _ _
            have hBO : BackO A w2 F (fun k => k = W1.heap.size) w2.heap.size W1.heap.size l (.slice ra l.length rc) De.St.zero wr.heap.size #[.int .i64 y.x.kind, .int .i64 y.x.n, .bool y.x.is, .slice y.a y.x.b.length y.c, .string (strOf y.x.t)] (W1.alloc (.cells #[.slice none 0 0, .slice none 0 0, .nilIface] 51)) := by
              refine ⟨(hB.still g1).still (World.grownBy_alloc _ _ _), PrW.new (hB.still g1).wr.base, fun k hf hk => ?_, fun k hk hf => ?_, alloc_keep (by rw [hW1]; exact alloc_at _ _), ⟨fun hf => ?_, fun hk => ?_⟩⟩
              · have := (hB.wr.own k hf).2; omega
              · have := own_lt hB.row hk; omega
              · have := (hB.wr.own _ hf).2; omega
              · omega
            have HPut1 : Hid (Calls Tryz.prog 26 #[.pointer (some ⟨wr.heap.size + 1, 0, none⟩), .agg #[.int .i64 y.x.kind, .int .i64 y.x.n, .bool y.x.is, .slice y.a y.x.b.length y.c, .string (strOf y.x.t)]] (W1.alloc (.cells #[.slice none 0 0, .slice none 0 0, .nilIface] 51)) fun e w' => e = .returned (.tuple #[]) ∧ ∃ F1, BackO A w2 F F1 w2.heap.size W1.heap.size l (.slice ra l.length rc) (De.step De.St.zero y.x) wr.heap.size #[.int .i64 y.x.kind, .int .i64 y.x.n, .bool y.x.is, .slice y.a y.x.b.length y.c, .string (strOf y.x.t)] w') := Lib.hid (by
              rw [← s1]
              refine (hBO.put1 (lput_any hBO.one HA2.out (Lim.zero.mono (by omega)) (by simp [De.St.zero]) _ y.x hni64 (HVv.out _ (grown_trans HGr.out (grown_trans g1 (World.grownBy_alloc _ _ _)))) (by omega))).mono (fun e w' hp => ⟨hp.1, _, hp.2⟩))
            have HDn1 : Hid (∀ F1 W, BackO A w2 F F1 w2.heap.size W1.heap.size l (.slice ra l.length rc) (De.step De.St.zero y.x) wr.heap.size #[.int .i64 y.x.kind, .int .i64 y.x.n, .bool y.x.is, .slice y.a y.x.b.length y.c, .string (strOf y.x.t)] W → Calls Tryz.prog 27 #[.pointer (some ⟨wr.heap.size + 1, 0, none⟩)] W fun e w' => PDnPost A W w' (De.done (De.step De.St.zero y.x)) e) := Lib.hid (fun F1 W hO => by
              rw [← s1]
              exact prDone_any hO.one HA2.out.errs (Lim.zero.step.mono (by omega)))
            have hone := De.one_done hfit
            have HW1 := Lib.hid hW1
            have HBO := Lib.hid hBO
            have HFit := Lib.hid hfit
            cases hd : De.done (De.step De.St.zero y.x) with
            | error e1 =>
              rw [hd] at HDn1
              generalize y.x.b.length = ylen at *
              generalize strOf y.x.t = yS at *
              clear hov hyB hy0 h300 hyx ht8 hB hfit hBO hW1 s1 g1 hone hd
              go_wp2_with (first
                | (go_at_call 26; rw [← HW1.out]; refine HPut1.out.mono ?_; rintro e w6 ⟨rfl, F1, hO6⟩; have O6 := Lib.hid hO6; have d0 := cell_blk hO6.cell 0 rfl; have d1 := cell_blk hO6.cell 1 rfl; have d2 := cell_blk hO6.cell 2 rfl; have d3 := cell_blk hO6.cell 3 rfl; have d4 := cell_blk hO6.cell 4 rfl; clear hO6)
                | (go_at_call 27; refine (HDn1.out _ _ O6.out).mono ?_; rintro e w7 ⟨hg7, rfl⟩; have O7 := Lib.hid (O6.out.still hg7); clear hg7))
              go_roundw
              case rel => exact ⟨j + 1, l, by omega, by go_num, ⟨F, O7.out.main⟩, HT.out, by have := HLj.out; omega⟩
              case measure => simp [intOf]; omega
            | ok lb =>
              rw [hd] at HDn1
              have hhas : De.has y.x = true := hone.1 ⟨lb, hd⟩
              have HTy : Hid (TakenV w y) := Lib.hid ⟨hfit, hhas, HVb.out⟩
              have HPut2 : Hid (∀ F1 W, BackO A w2 F F1 w2.heap.size W1.heap.size l (.slice ra l.length rc) (De.step De.St.zero y.x) wr.heap.size #[.int .i64 y.x.kind, .int .i64 y.x.n, .bool y.x.is, .slice y.a y.x.b.length y.c, .string (strOf y.x.t)] W → Calls Tryz.prog 26 #[.pointer (some ⟨w2.heap.size, 0, none⟩), .agg #[.int .i64 y.x.kind, .int .i64 y.x.n, .bool y.x.is, .slice y.a y.x.b.length y.c, .string (strOf y.x.t)]] W fun e w' => e = .returned (.tuple #[]) ∧ ∃ F', PrW A w2 F' w2.heap.size (st8 (l ++ [y])) w' ∧ w'.ownsRow w2.heap.size 41 5 (.slice ra l.length rc) l.length (l.flatMap VC.cells) ∧ (∀ k, (Value.slice ra l.length rc).ownBlock = some k → ¬ F' k) ∧ w'.heap[wr.heap.size]? = some (.cells #[.int .i64 y.x.kind, .int .i64 y.x.n, .bool y.x.is, .slice y.a y.x.b.length y.c, .string (strOf y.x.t)] 41 (0, 0))) := Lib.hid (fun F1 W hO => by
                refine (hO.put2 (y := y) (lput_any hO.main.wr HA2.out ((st8_lim l).mono (by omega)) (st8_made HT.out) _ y.x hni64 (HVv.out _ (grown_trans HG2.out hO.main.wr.base)) (by omega))).mono (fun e w' hp => ⟨hp.1, _, hp.2.1, hp.2.2.1, hp.2.2.2.1, hp.2.2.2.2.1⟩))
              have HOne5 : Hid (∀ u ∈ [Value.int .i64 y.x.kind, .int .i64 y.x.n, .bool y.x.is, .slice y.a y.x.b.length y.c, .string (strOf y.x.t)], u.oneCell' = true) := Lib.hid (vc_cells_one y)
              have HCs : Hid (y.cells = [Value.int .i64 y.x.kind, .int .i64 y.x.n, .bool y.x.is, .slice y.a y.x.b.length y.c, .string (strOf y.x.t)]) := Lib.hid rfl
              obtain ⟨L, hL⟩ : ∃ L, L = l.length := ⟨_, rfl⟩
              have HL := Lib.hid hL
              generalize y.x.b.length = ylen at *
              generalize strOf y.x.t = yS at *
              clear hov hyB hy0 h300 hyx ht8 hB hfit hBO hW1 s1 g1 hone hd hhas hL
              go_wp2_with (first
                | (go_at_call 26; rw [← HW1.out]; (with_reducible refine HPut1.out.mono ?_); rintro e w6 ⟨rfl, F1, hO6⟩; have O6 := Lib.hid hO6; have d0 := cell_blk hO6.cell 0 rfl; have d1 := cell_blk hO6.cell 1 rfl; have d2 := cell_blk hO6.cell 2 rfl; have d3 := cell_blk hO6.cell 3 rfl; have d4 := cell_blk hO6.cell 4 rfl; clear hO6)
                | (go_at_call 27; refine (HDn1.out _ _ O6.out).mono ?_; rintro e w7 ⟨hg7, a7, c7, rfl, _, _⟩; have hO7 := O6.out.still hg7; have O7 := Lib.hid hO7; have d0 := cell_blk hO7.cell 0 rfl; have d1 := cell_blk hO7.cell 1 rfl; have d2 := cell_blk hO7.cell 2 rfl; have d3 := cell_blk hO7.cell 3 rfl; have d4 := cell_blk hO7.cell 4 rfl; clear hg7 hO7)
                | (go_at_call 26; (with_reducible refine (HPut2.out _ _ O7.out).mono ?_); rintro e w8 ⟨rfl, F8, hp8, hr8, hf8, hc8⟩; have P8 := Lib.hid hp8; have R8 := Lib.hid hr8; have F8' := Lib.hid hf8; have d0 := cell_blk hc8 0 rfl; have d1 := cell_blk hc8 1 rfl; have d2 := cell_blk hc8 2 rfl; have d3 := cell_blk hc8 3 rfl; have d4 := cell_blk hc8 4 rfl; clear hp8 hr8 hf8 hc8)
                | (obtain ⟨w9, hw9⟩ : ∃ w9, w9 = w8.alloc (.cells #[.int .i64 y.x.kind, .int .i64 y.x.n, .bool y.x.is, .slice y.a ylen y.c, .string yS] 41) := ⟨_, rfl⟩; rw [← hw9]; have g9 : Hid (w8.grownBy w9 none) := Lib.hid (by rw [hw9]; exact World.grownBy_alloc _ _ _); have b9 : w9.heap[w8.heap.size]? = some (.cells #[.int .i64 y.x.kind, .int .i64 y.x.n, .bool y.x.is, .slice y.a ylen y.c, .string yS] 41 (0, 0)) := (by rw [hw9]; exact alloc_at _ _); refine wpList_appN2 (by rfl) (.tmp 54) (.tmp 56) 46 (by rfl) w2.heap.size 41 _ 5 64 Tryz.underlying46 HI5.out rfl (by decide) (by decide) _ l.length (l.flatMap VC.cells) (by rfl) (row_grown R8.out g9.out) ⟨w8.heap.size, 0, none⟩ 1 1 _ (by rfl) (by rfl) (fun q u hu => by rw [addr_addO, Nat.zero_add]; exact cell_blk b9 q (by simpa using hu)) HOne5.out (by omega) (Nat.le_trans P8.out.base.size g9.out.size) ?_; intro v10 w10 ho10 hg10 hb10; have A10 : Hid (BackW A w2 F8 w2.heap.size (l ++ [y]) v10 w10) := Lib.hid (back_appended P8.out R8.out F8'.out g9.out (by rw [HCs.out]; exact ho10) hg10 hb10); clear hw9 b9 ho10 hg10 hb10))
              go_roundw
              case rel => exact ⟨j + 1, l ++ [y], by omega, by go_num, ⟨F8, A10.out⟩, fun z hz => by
                rcases List.mem_append.1 hz with hz | hz
                · exact HT.out z hz
                · simp at hz; rw [hz]; exact HTy.out, by rw [List.length_append, List.length_singleton]; have := HLj.out; omega⟩
              case measure => simp [intOf]; omega
      · obtain rfl : j = n := by omega
        have hT := HT.out
        have hlj := HLj.out
        obtain ⟨bb, hbb, hbl, hcl, hdn, hst, hen, hask, hlv, hfn⟩ := De.back_all (l := VC.vals l) (fun v hv => by
          obtain ⟨y, hy, rfl⟩ := List.mem_map.1 hv
          exact ⟨(hT y hy).1, (hT y hy).2.1⟩) (by unfold VC.vals; rw [List.length_map]; omega)
        have hsc : De.step (st8 l) { De.none0 with kind := 2 } = ⟨0, [], [bb]⟩ := by
          unfold De.step
          rw [if_neg (by rw [st8_is hT]; simp), if_neg (by decide), if_pos rfl]
          exact hcl
        have hsl := (st8_lim l).step (x := { De.none0 with kind := 2 })
        rw [hsc] at hsl
        obtain ⟨K, hK⟩ : ∃ K, K = l.length := ⟨_, rfl⟩
        have HKe := Lib.hid hK
        have hK60 : K ≤ 60 := by omega
        have HCl : Hid (Calls Tryz.prog 28 #[.pointer (some ⟨w2.heap.size, 0, none⟩)] wr fun e w' => e = .returned (.tuple #[]) ∧ (∃ F', PrW A w2 F' w2.heap.size ⟨0, [], [bb]⟩ w') ∧ w'.ownsRow w2.heap.size 41 5 (.slice ra l.length rc) l.length (l.flatMap VC.cells)) := Lib.hid ((prClose_any hB.wr HA2.out.errs ((st8_lim l).mono (by omega)) (st8_made hT) { De.none0 with kind := 2 } rfl).mono (fun e w' hp => by
          obtain ⟨q1, q2, q3⟩ := hp
          rw [hsc] at q3
          exact ⟨q1, ⟨_, q3⟩, row_upto hB.row q2 hB.free⟩))
        have HDn : Hid (∀ F' W, PrW A w2 F' w2.heap.size ⟨0, [], [bb]⟩ W → Calls Tryz.prog 27 #[.pointer (some ⟨w2.heap.size, 0, none⟩)] W fun e w' => PDnPost A W w' (.ok bb) e) := Lib.hid (fun F' W h => by
          have := prDone_any h HA2.out.errs (hsl.mono (by omega))
          rw [hdn] at this; exact this)
        have HRd : Hid (∀ W a c, w2.grownBy W none → Bytes W (.slice a bb.length c) bb → Whole0 (.slice a bb.length c) → Calls Tryz.prog 11 #[.slice a bb.length c] W fun e w' => ∃ b3, e = .returned (.pointer (some ⟨b3, 0, none⟩)) ∧ W.grownBy w' none ∧ ∃ F', PrR A W F' b3 ⟨0, bb, []⟩ w') := Lib.hid (fun W a c hW hb h0 => (rrRead_any A a c bb W W (grown_refl _ _) hb h0 (by omega) (HA2.out.errs.grown hW)).mono (fun e w' ⟨b3, he, _, hg, hp⟩ => ⟨b3, he, hg, _, by rw [← hst]; exact hp⟩))
        have HEn : Hid (∀ W F' b3 w', w2.grownBy W none → PrR A W F' b3 ⟨0, bb, []⟩ w' → Calls Tryz.prog 29 #[.pointer (some ⟨b3, 0, none⟩), .int .i64 48] w' fun e w'' => e = .returned (.bool true) ∧ ∃ F'', PrR A W F'' b3 ⟨0, ((VC.vals l).map De.elemOf).flatten, [[]]⟩ w'') := Lib.hid (fun W F' b3 w' hW h => (prEnter_any h (HA2.out.errs.grown hW) 48).mono (fun e w'' hp => by
          rw [← hst, hen] at hp
          exact ⟨hp.2.2, _, hp.2.1⟩))
        have HLv : Hid (∀ W F' b3 w', w2.grownBy W none → PrR A W F' b3 ⟨0, [], [[]]⟩ w' → Calls Tryz.prog 30 #[.pointer (some ⟨b3, 0, none⟩)] w' fun e w'' => e = .returned (.tuple #[]) ∧ ∃ F'', PrR A W F'' b3 ⟨0, [], []⟩ w'') := Lib.hid (fun W F' b3 w' hW h => (prLeave_any h (HA2.out.errs.grown hW)).mono (fun e w'' hp => by
          obtain ⟨q1, q2, q3⟩ := hp
          rw [hlv] at q3
          exact ⟨q1, _, q3⟩))
        have HEd : Hid (∀ W F' b3 w', w2.grownBy W none → PrR A W F' b3 ⟨0, [], []⟩ w' → Calls Tryz.prog 19 #[.pointer (some ⟨b3, 0, none⟩)] w' fun e w'' => e = .returned .nilIface ∧ w'' = w') := Lib.hid (fun W F' b3 w' hW h => (prEnd_any h (HA2.out.errs.grown hW)).mono (fun e w'' hp => by
          rw [hfn, errOf, if_pos rfl] at hp; exact hp))
        have HRs := Lib.hid (HR.out.grown HG2.out)
        rw [← hK] at HCl ⊢
        clear hT hlj hbb hbl hcl hdn hst hen hask hlv hfn hsc hsl hB hK
        go_wp2_with (first
          | (go_at_call 28; refine HCl.out.mono ?_; rintro e w3 ⟨rfl, ⟨F3, hp3⟩, hr3⟩; have P3 := Lib.hid hp3; have R3 := Lib.hid hr3; clear hp3 hr3)
          | (go_at_call 27; refine (HDn.out _ _ P3.out).mono ?_; rintro e w6 ⟨hg6, a6, c6, rfl, hb6, h06⟩; have G6 := Lib.hid (grown_trans P3.out.base hg6); have B6 := Lib.hid hb6; have Z6 := Lib.hid h06; have R6 := Lib.hid (row_grown R3.out hg6); clear hg6 hb6 h06)
          | (go_at_call 11; refine (HRd.out _ _ _ G6.out B6.out Z6.out).mono ?_; rintro e w7 ⟨b3, rfl, hg7, F7, hp7⟩; have P7 := Lib.hid hp7; clear hg7 hp7)
          | (go_at_call 29; refine (HEn.out _ _ _ _ G6.out P7.out).mono ?_; rintro e w8 ⟨rfl, F8, hp8⟩; have P8 := Lib.hid hp8; clear hp8))
        obtain ⟨wo, rfl⟩ : ∃ wo : World, wo = wr := ⟨_, rfl⟩
        have HRg := Lib.hid (fun W (hW : w6.grownBy W none) => row_grown R6.out hW)
        have HRd6 := Lib.hid (HRs.out.grown G6.out)
        have HGW : Hid (w.grownBy w6 none) := Lib.hid (grown_trans HG2.out G6.out)
        clear HAd HV H300 HRop HRc HA HR HNc HB5 HI5
        go_loopw [75] (fun i wq => ∃ m : Nat, m ≤ K ∧ i = .int .i64 m ∧ ∃ F', PrR A w6 F' b3 ⟨0, (((VC.vals l).drop m).map De.elemOf).flatten, [[]]⟩ wq) (fun i _ => K - (intOf i).toNat)
        case atStart => exact ⟨0, Nat.zero_le _, rfl, F8, P8.out⟩
        case round =>
          obtain ⟨m, hm, rfl, F9, hp9⟩ := hrel
          obtain ⟨wq, rfl⟩ : ∃ wq : World, wq = wr := ⟨_, rfl⟩
          have HGq : Hid (w6.grownBy wq none) := Lib.hid hp9.base
          by_cases hmk : m < K
          · have HM := Lib.hid hmk
            obtain ⟨rg2, hra, e0, e1, e2, e3, e4⟩ := row_at (HRg.out wq hp9.base) HKe.out (m := m) (by rw [← HKe.out]; exact hmk)
            subst hra
            obtain ⟨y, hy⟩ : ∃ y, y = l.getD m ⟨De.none0, none, 0⟩ := ⟨_, rfl⟩
            rw [← hy] at e0 e1 e2 e3 e4
            have hyl : y ∈ l := by
              rw [hy, List.getD_eq_getElem?_getD, List.getElem?_eq_getElem (by rw [← HKe.out]; exact hmk)]
              exact List.getElem_mem _
            have hty := HT.out y hyl
            have hdr : (VC.vals l).drop m = y.x :: (VC.vals l).drop (m + 1) := by
              have hml : m < (VC.vals l).length := by unfold VC.vals; rw [List.length_map, ← HKe.out]; exact hmk
              rw [List.drop_eq_getElem_cons hml]
              congr 1
              rw [hy, List.getD_eq_getElem?_getD, List.getElem?_eq_getElem (by rw [← HKe.out]; exact hmk)]
              simp [VC.vals]
            rw [hdr, List.map_cons, List.flatten_cons] at hp9
            obtain ⟨rest, hrest⟩ : ∃ rest, rest = (((VC.vals l).drop (m + 1)).map De.elemOf).flatten := ⟨_, rfl⟩
            rw [← hrest] at hp9
            have HRst := Lib.hid hrest
            have hg2 : rg2 < wq.heap.size := World.block_lt_of_cell? wq _ e0
            have HG : Hid (∀ W, W = wq.alloc (.cells #[.int .i64 y.x.kind, .int .i64 y.x.n, .bool y.x.is, .slice y.a y.x.b.length y.c, .string (strOf y.x.t)] 41) → Calls Tryz.prog 21 #[.pointer (some ⟨b3, 0, none⟩), .agg #[.int .i64 y.x.kind, .int .i64 0, .int .i64 (-9223372036854775808), .int .i64 9223372036854775807]] W fun e w' => ∃ a c F', e = .returned (.agg #[.int .i64 0, .int .i64 (De.back y.x).n, .bool (De.back y.x).is, .slice a (De.back y.x).b.length c, .string (strOf (De.back y.x).t)]) ∧ Bytes w' (.slice a (De.back y.x).b.length c) (De.back y.x).b ∧ PrR A w6 F' b3 ⟨0, rest, [[]]⟩ w' ∧ w'.heap[wq.heap.size]? = some (.cells #[.int .i64 y.x.kind, .int .i64 y.x.n, .bool y.x.is, .slice y.a y.x.b.length y.c, .string (strOf y.x.t)] 41 (0, 0))) := Lib.hid (fun W hW => by
              have hga : wq.grownBy W none := by rw [hW]; exact World.grownBy_alloc _ _ _
              refine (lget_any (hp9.still hga) HRd6.out (top_short hty.1 hty.2.1) y.x.kind 0 (-9223372036854775808) 9223372036854775807 hty.1.1 max64).mono (fun e w' ⟨v, he, hq⟩ => ?_)
              obtain ⟨q1, q2, a, c, q3, q4⟩ := hq
              rw [ask_step hty.1 hty.2.1] at q2 q3 q4
              subst he
              refine ⟨a, c, _, by rw [q3], q4.now.1, q2, ?_⟩
              rw [q1.block wq.heap.size (by rw [hW, alloc_size]; omega) (fun hf => by have := (hp9.own _ hf).2; omega), hW]
              exact alloc_at _ _)
            have HVb : Hid (∀ W, w.grownBy W none → Bytes W (.slice y.a y.x.b.length y.c) y.x.b) := Lib.hid (fun W hW => (hty.2.2 W hW).1)
            have hk1 := hty.1.1
            clear hp9 hy hyl hty hdr hrest
            by_cases h5 : y.x.kind = 5
            · have hbk : De.back y.x = { De.none0 with is := y.x.is } := by unfold De.back; rw [if_pos h5]
              rw [hbk] at HG
              simp only [De.none0, List.length_nil] at HG
              rw [show strOf ([] : List Nat) = ⟨#[]⟩ from rfl] at HG
              generalize y.x.b.length = ylen at *
              generalize strOf y.x.t = yS at *
              clear hbk
              rw [h5] at HG e0
              clear h5 hk1
              go_wp2_with (first
                | (go_at_call 21; refine (HG.out _ rfl).mono ?_; rintro e w10 ⟨a10, c10, F10, rfl, hb10, hp10, hc10⟩; have P10 := Lib.hid hp10; have d0 := cell_blk hc10 0 rfl; have d00 : (w10.alloc (.cells #[.int .i64 0, .int .i64 0, .bool y.x.is, .slice a10 0 c10, .string ⟨#[]⟩] 41)).cell? ⟨wq.heap.size, 0, none⟩ = _ := cell_blk (alloc_keep hc10) 0 rfl; have d2 : (w10.alloc (.cells #[.int .i64 0, .int .i64 0, .bool y.x.is, .slice a10 0 c10, .string ⟨#[]⟩] 41)).cell? ⟨wq.heap.size, 2, none⟩ = _ := cell_blk (alloc_keep hc10) 2 rfl; clear hb10 hp10 hc10))
              go_roundw
              case rel => exact ⟨m + 1, by have := HM.out; omega, by go_num, F10, by rw [← HRst.out]; exact P10.out.still (World.grownBy_alloc _ _ _)⟩
              case measure =>
                have := HM.out
                simp [intOf]; omega
            by_cases h6 : y.x.kind = 6
            · have hbk : De.back y.x = { De.none0 with b := y.x.b } := by unfold De.back; rw [if_neg h5, if_pos h6]
              rw [hbk] at HG
              simp only [De.none0] at HG
              rw [show strOf ([] : List Nat) = ⟨#[]⟩ from rfl] at HG
              obtain ⟨X, hX⟩ : ∃ X, X = strOf y.x.b := ⟨_, rfl⟩
              have HC : Hid (∀ W u, Bytes W u y.x.b → (convert 22 9 u).run Tryz.prog W = .ok (.string X) W) := Lib.hid (fun W u h => by rw [hX]; exact conv_bytes h _ 5 _ Tryz.underlying22 Tryz.underlying5 Tryz.underlying9)
              generalize y.x.b.length = ylen at *
              generalize strOf y.x.t = yS at *
              clear hX
              clear hbk
              rw [h6] at HG e0
              clear h6 hk1
              go_wp2_with (first
                | (go_at_call 21; refine (HG.out _ rfl).mono ?_; rintro e w10 ⟨a10, c10, F10, rfl, hb10, hp10, hc10⟩; have P10 := Lib.hid hp10; have d0 := cell_blk hc10 0 rfl; have d00 : (w10.alloc (.cells #[.int .i64 0, .int .i64 0, .bool false, .slice a10 ylen c10, .string ⟨#[]⟩] 41)).cell? ⟨wq.heap.size, 0, none⟩ = _ := cell_blk (alloc_keep hc10) 0 rfl; have d3 : (w10.alloc (.cells #[.int .i64 0, .int .i64 0, .bool false, .slice a10 ylen c10, .string ⟨#[]⟩] 41)).cell? ⟨wq.heap.size, 3, none⟩ = _ := cell_blk (alloc_keep hc10) 3 rfl; have cv1 := HC.out (w10.alloc (.cells #[.int .i64 0, .int .i64 0, .bool false, .slice a10 ylen c10, .string ⟨#[]⟩] 41)) _ (hb10.grown (World.grownBy_alloc _ _ _)); have cv2 := HC.out (w10.alloc (.cells #[.int .i64 0, .int .i64 0, .bool false, .slice a10 ylen c10, .string ⟨#[]⟩] 41)) _ (HVb.out _ (grown_trans HGW.out (P10.out.still (World.grownBy_alloc _ _ _)).base)); clear hb10 hp10 hc10))
              go_roundw
              case rel => exact ⟨m + 1, by have := HM.out; omega, by go_num, F10, by rw [← HRst.out]; exact P10.out.still (World.grownBy_alloc _ _ _)⟩
              case measure =>
                have := HM.out
                simp [intOf]; omega
            by_cases h7 : y.x.kind = 7 ∨ y.x.kind = 8
            · have hbk : De.back y.x = { De.none0 with t := y.x.t } := by unfold De.back; rw [if_neg h5, if_neg h6, if_pos h7]
              rw [hbk] at HG
              simp only [De.none0, List.length_nil] at HG
              generalize y.x.b.length = ylen at *
              generalize strOf y.x.t = yS at *
              clear hbk
              rcases h7 with h7 | h7
              · rw [h7] at HG e0
                clear h7 hk1
                go_wp2_with (first
                  | (go_at_call 21; refine (HG.out _ rfl).mono ?_; rintro e w10 ⟨a10, c10, F10, rfl, hb10, hp10, hc10⟩; have P10 := Lib.hid hp10; have d0 := cell_blk hc10 0 rfl; have d00 : (w10.alloc (.cells #[.int .i64 0, .int .i64 0, .bool false, .slice a10 0 c10, .string (yS)] 41)).cell? ⟨wq.heap.size, 0, none⟩ = _ := cell_blk (alloc_keep hc10) 0 rfl; have d4 : (w10.alloc (.cells #[.int .i64 0, .int .i64 0, .bool false, .slice a10 0 c10, .string (yS)] 41)).cell? ⟨wq.heap.size, 4, none⟩ = _ := cell_blk (alloc_keep hc10) 4 rfl; clear hb10 hp10 hc10))
                go_roundw
                case rel => exact ⟨m + 1, by have := HM.out; omega, by go_num, F10, by rw [← HRst.out]; exact P10.out.still (World.grownBy_alloc _ _ _)⟩
                case measure =>
                  have := HM.out
                  simp [intOf]; omega
              · rw [h7] at HG e0
                clear h7 hk1
                go_wp2_with (first
                  | (go_at_call 21; refine (HG.out _ rfl).mono ?_; rintro e w10 ⟨a10, c10, F10, rfl, hb10, hp10, hc10⟩; have P10 := Lib.hid hp10; have d0 := cell_blk hc10 0 rfl; have d00 : (w10.alloc (.cells #[.int .i64 0, .int .i64 0, .bool false, .slice a10 0 c10, .string (yS)] 41)).cell? ⟨wq.heap.size, 0, none⟩ = _ := cell_blk (alloc_keep hc10) 0 rfl; have d4 : (w10.alloc (.cells #[.int .i64 0, .int .i64 0, .bool false, .slice a10 0 c10, .string (yS)] 41)).cell? ⟨wq.heap.size, 4, none⟩ = _ := cell_blk (alloc_keep hc10) 4 rfl; clear hb10 hp10 hc10))
                go_roundw
                case rel => exact ⟨m + 1, by have := HM.out; omega, by go_num, F10, by rw [← HRst.out]; exact P10.out.still (World.grownBy_alloc _ _ _)⟩
                case measure =>
                  have := HM.out
                  simp [intOf]; omega
            have hbk : De.back y.x = { De.none0 with n := y.x.n } := by unfold De.back; rw [if_neg h5, if_neg h6, if_neg h7]
            have h7' : ¬ y.x.kind = 7 := fun h => h7 (.inl h)
            have h8' : ¬ y.x.kind = 8 := fun h => h7 (.inr h)
            rw [hbk] at HG
            simp only [De.none0, List.length_nil] at HG
            rw [show strOf ([] : List Nat) = ⟨#[]⟩ from rfl] at HG
            generalize y.x.b.length = ylen at *
            generalize strOf y.x.t = yS at *
            clear hbk h7
            go_wp2_with (first
              | (go_at_call 21; refine (HG.out _ rfl).mono ?_; rintro e w10 ⟨a10, c10, F10, rfl, hb10, hp10, hc10⟩; have P10 := Lib.hid hp10; have d0 := cell_blk hc10 0 rfl; have d00 : (w10.alloc (.cells #[.int .i64 0, .int .i64 y.x.n, .bool false, .slice a10 0 c10, .string ⟨#[]⟩] 41)).cell? ⟨wq.heap.size, 0, none⟩ = _ := cell_blk (alloc_keep hc10) 0 rfl; have d1 : (w10.alloc (.cells #[.int .i64 0, .int .i64 y.x.n, .bool false, .slice a10 0 c10, .string ⟨#[]⟩] 41)).cell? ⟨wq.heap.size, 1, none⟩ = _ := cell_blk (alloc_keep hc10) 1 rfl; clear hb10 hp10 hc10))
            go_roundw
            case rel => exact ⟨m + 1, by have := HM.out; omega, by go_num, F10, by rw [← HRst.out]; exact P10.out.still (World.grownBy_alloc _ _ _)⟩
            case measure =>
              have := HM.out
              simp [intOf]; omega
          · obtain rfl : m = K := by omega
            have hd0 : (((VC.vals l).drop m).map De.elemOf).flatten = [] := by
              rw [List.drop_eq_nil_of_le (by unfold VC.vals; rw [List.length_map, ← HKe.out]; exact Nat.le_refl _)]; rfl
            rw [hd0] at hp9
            have P9 := Lib.hid hp9
            clear hp9 hd0
            go_wp2_with (first
              | (go_at_call 30; refine (HLv.out _ _ _ _ G6.out P9.out).mono ?_; rintro e w10 ⟨rfl, F10, hp10⟩; have P10 := Lib.hid hp10; clear hp10)
              | (go_at_call 19; refine (HEd.out _ _ _ _ G6.out P10.out).mono ?_; rintro e w11 ⟨rfl, hw11⟩; obtain rfl := hw11))
            go_ret
            exact ⟨rfl, grown_trans HGW.out P10.out.base⟩
end Go.Proofs.YtagdcjpjbjboeaaGreatDoor
