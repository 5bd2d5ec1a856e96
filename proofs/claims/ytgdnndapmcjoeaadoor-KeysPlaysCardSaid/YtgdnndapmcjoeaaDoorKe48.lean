import Derived.Test.YtgdnndapmcjoeaaDoorKe38
import Derived.Test.YtgdnndapmcjoeaaDoorKe47
import Derived.Lib.SmallJoins
namespace Go.Proofs.YtgdnndapmcjoeaaDoor
open Go.ChangeShapes Go.WideShapes Go.ChangeAt Go.RowKit
set_option linter.unusedVariables false
def Ac.zero : Ac := ⟨0, 0, 0, ⟨#[]⟩, [], []⟩
/-- Acts, one behind the other. -/
def AcsAt (W : World) (sb so : Nat) (xs : List Ac) : Prop := ∀ i, i < xs.length → ∃ v u, W.cell? ⟨sb, so + i * 6, none⟩ = some (.int .i64 (xs.getD i Ac.zero).kind) ∧ W.cell? ⟨sb, so + i * 6 + 1, none⟩ = some (.int .i64 (xs.getD i Ac.zero).key) ∧ W.cell? ⟨sb, so + i * 6 + 2, none⟩ = some (.int .i64 (xs.getD i Ac.zero).old) ∧ W.cell? ⟨sb, so + i * 6 + 3, none⟩ = some (.string (xs.getD i Ac.zero).dom) ∧ W.cell? ⟨sb, so + i * 6 + 4, none⟩ = some v ∧ W.cell? ⟨sb, so + i * 6 + 5, none⟩ = some u ∧
  Bytes W v (xs.getD i Ac.zero).bs ∧ Whole0 v ∧ Bytes W u (xs.getD i Ac.zero).msg ∧ Whole0 u
section
variable {H : Type} {P : Program} {enc : TypeId × Value → H} {w : World} {base : Nat} {spare : Nat → Bool} {held : Bool}
theorem ktrod_struct6 {t : TypeId} {f0 f1 f2 f3 f4 f5 : Field} {fuel : Nat} {cs : List Value} {x : DataW H × List MemPlace} (ht : P.underlying t = some (.struct #[f0, f1, f2, f3, f4, f5])) (h : DataW.trod enc P w base spare held fuel t cs = some x) :
    ∃ y0 y1 y2 y3 y4 y5 n, cs.length = P.cellsOf t ∧ DataW.trod enc P w base spare held n f0.type ((cs.drop f0.offset).take (P.cellsOf f0.type)) = some y0 ∧
      DataW.trod enc P w base spare held n f1.type ((cs.drop f1.offset).take (P.cellsOf f1.type)) = some y1 ∧ DataW.trod enc P w base spare held n f2.type ((cs.drop f2.offset).take (P.cellsOf f2.type)) = some y2 ∧
      DataW.trod enc P w base spare held n f3.type ((cs.drop f3.offset).take (P.cellsOf f3.type)) = some y3 ∧ DataW.trod enc P w base spare held n f4.type ((cs.drop f4.offset).take (P.cellsOf f4.type)) = some y4 ∧
      DataW.trod enc P w base spare held n f5.type ((cs.drop f5.offset).take (P.cellsOf f5.type)) = some y5 := by
  obtain ⟨xs, n, _, rfl, hl, hlen, hf⟩ := DataW.trod_struct ht h
  match xs, hlen with
  | [y0, y1, y2, y3, y4, y5], _ => exact ⟨y0, y1, y2, y3, y4, y5, n, hl, by simpa using hf 0 f0 rfl, by simpa using hf 1 f1 rfl, by simpa using hf 2 f2 rfl, by simpa using hf 3 f3 rfl, by simpa using hf 4 f4 rfl, by simpa using hf 5 f5 rfl⟩
end
theorem kInt6 : Tryd.prog.cellsOf 3 = 1 := by kernel_rfl
theorem kAct6 : Tryd.prog.cellsOf 49 = 6 := by kernel_rfl
set_option maxRecDepth 20000 in
set_option maxHeartbeats 1000000 in
theorem acts_in {H : Type} {enc : TypeId × Value → H} {W : World} {base : Nat} {sp : Nat → Bool} {held : Bool} {fuel : Nat} {cs : List Value} {y : DataW H × List MemPlace} (hf : DataW.trod enc Tryd.prog W base sp held fuel 34 cs = some y) :
    ∃ (a : Option Addr) (sb so n c : Nat) (xs : List Ac), cs = [.slice a n c] ∧ xs.length = n ∧ (0 < n → a = some ⟨sb, so, none⟩ ∧ sb < W.heap.size) ∧ AcsAt W sb so xs ∧ n ≤ maxLen := by
  rcases DataW.trod_slice Tryd.underlying34 hf with ⟨rfl, _⟩ | ⟨a, len, cap, elems, rest, m, _, rfl, _, _, hl, hm, hel, hall, _, _⟩
  · exact ⟨none, 0, 0, 0, 0, [], rfl, rfl, fun h => absurd h (Nat.lt_irrefl _), fun i hi => absurd hi (Nat.not_lt_zero _), by unfold maxLen; simp⟩
  · have each : ∀ i, i < len → ∃ (x : Ac) (v u : Value), W.cell? (a.add (i * 6)) = some (.int .i64 x.kind) ∧ W.cell? ((a.add (i * 6)).add 1) = some (.int .i64 x.key) ∧ W.cell? ((a.add (i * 6)).add 2) = some (.int .i64 x.old) ∧ W.cell? ((a.add (i * 6)).add 3) = some (.string x.dom) ∧ W.cell? ((a.add (i * 6)).add 4) = some v ∧ W.cell? ((a.add (i * 6)).add 5) = some u ∧ Bytes W v x.bs ∧ Whole0 v ∧ Bytes W u x.msg ∧ Whole0 u := fun i hi => by
      have h1 := hall i hi
      rw [List.getElem?_eq_getElem (by omega), kAct6, Option.bind_eq_some_iff] at h1
      obtain ⟨cs', hc', hy'⟩ := h1
      obtain ⟨y0, y1, y2, y3, y4, y5, k, hlen, g0, g1, g2, g3, g4, g5⟩ := ktrod_struct6 Tryd.underlying49 hy'
      obtain ⟨_, hlen2, hcs⟩ := World.cells?_some hc'
      match cs', hlen2 with
      | [c0, c1, c2, c3, c4, c5], _ =>
        simp only [kInt6, cStr, cSl, List.drop_zero, List.drop_succ_cons, List.take_succ_cons, List.take_zero] at g0 g1 g2 g3 g4 g5
        obtain ⟨n0, e0, _, b0⟩ := DataW.trod_int Tryd.underlying3 g0
        obtain ⟨n1, e1, _, b1⟩ := DataW.trod_int Tryd.underlying3 g1
        obtain ⟨n2, e2, _, b2⟩ := DataW.trod_int Tryd.underlying3 g2
        obtain ⟨S, e3, _⟩ := DataW.trod_string Tryd.underlying9 g3
        obtain ⟨a', l', c', e4⟩ := Joins.slice_form Tryd.underlying22 g4
        obtain ⟨a'', l'', c'', e5⟩ := Joins.slice_form Tryd.underlying22 g5
        obtain rfl := (List.cons.inj e0).1
        obtain rfl := (List.cons.inj e1).1
        obtain rfl := (List.cons.inj e2).1
        obtain rfl := (List.cons.inj e3).1
        obtain rfl := (List.cons.inj e4).1
        obtain rfl := (List.cons.inj e5).1
        obtain ⟨l, hB, hW, _⟩ := bytes_in (v := .slice a' l' c') (d := y4.1) (p := y4.2) ⟨k, by simpa [Value.cells] using g4⟩ ⟨_, _, _, rfl⟩
        obtain ⟨l2, hB2, hW2, _⟩ := bytes_in (v := .slice a'' l'' c'') (d := y5.1) (p := y5.2) ⟨k, by simpa [Value.cells] using g5⟩ ⟨_, _, _, rfl⟩
        have q0 := hcs 0 (by omega)
        have q1 := hcs 1 (by omega)
        have q2 := hcs 2 (by omega)
        have q3 := hcs 3 (by omega)
        have q4 := hcs 4 (by omega)
        have q5 := hcs 5 (by omega)
        have ha0 : (a.add (i * 6)).add 0 = a.add (i * 6) := by unfold Addr.add; split <;> simp_all
        rw [ha0] at q0
        exact ⟨⟨n0, n1, n2, S, l, l2⟩, _, _, by simpa using q0, by simpa using q1, by simpa using q2, by simpa using q3, by simpa using q4, by simpa using q5, hB, hW, hB2, hW2⟩
    rcases Nat.eq_zero_or_pos len with h0 | h0
    · subst h0
      exact ⟨some a, 0, 0, 0, cap, [], rfl, rfl, fun h => absurd h (Nat.lt_irrefl _), fun i hi => absurd hi (Nat.not_lt_zero _), Nat.zero_le _⟩
    · obtain ⟨b, off, spot⟩ := a
      obtain ⟨x0, v0, u0, hc0, _⟩ := each 0 h0
      have hspot : spot = none := by simpa [Addr.add] using World.cell?_spot hc0
      subst hspot
      have hg : ∀ i : Nat, ∃ p : Ac, i < len → ∃ v u, W.cell? ⟨b, off + i * 6, none⟩ = some (.int .i64 p.kind) ∧ W.cell? ⟨b, off + i * 6 + 1, none⟩ = some (.int .i64 p.key) ∧ W.cell? ⟨b, off + i * 6 + 2, none⟩ = some (.int .i64 p.old) ∧ W.cell? ⟨b, off + i * 6 + 3, none⟩ = some (.string p.dom) ∧ W.cell? ⟨b, off + i * 6 + 4, none⟩ = some v ∧ W.cell? ⟨b, off + i * 6 + 5, none⟩ = some u ∧ Bytes W v p.bs ∧ Whole0 v ∧ Bytes W u p.msg ∧ Whole0 u := fun i => by
        by_cases hi : i < len
        · obtain ⟨x, v, u, h1, h2, h3, h4, h5, h6, h7⟩ := each i hi
          simp only [addr_addO] at h1 h2 h3 h4 h5 h6
          exact ⟨x, fun _ => ⟨v, u, h1, h2, h3, h4, h5, h6, h7⟩⟩
        · exact ⟨Ac.zero, fun h => absurd h hi⟩
      refine ⟨some ⟨b, off, none⟩, b, off, len, cap, (List.range len).map fun i => Classical.choose (hg i), rfl, by simp, fun _ => ⟨rfl, ?_⟩, fun i hi => ?_, by omega⟩
      · have := cell_lt hc0
        simpa [Addr.add] using this
      · have hi' : i < len := by simpa using hi
        have e : ((List.range len).map fun i => Classical.choose (hg i)).getD i Ac.zero = Classical.choose (hg i) := by simp [List.getD_eq_getElem?_getD, hi']
        rw [e]
        exact Classical.choose_spec (hg i) hi'
/-- What long answers. -/
def LngOut (w : World) (n : Nat) (xs : List Ac) (e : Ending) (w' : World) : Prop :=
  ∃ r : Bool, e = .returned (.bool r) ∧ w.grownBy w' none ∧ (r = false → n ≤ 40 ∧ ∀ q, q < n → (xs.getD q Ac.zero).dom.size ≤ 100 ∧ (xs.getD q Ac.zero).bs.length ≤ 200 ∧ (xs.getD q Ac.zero).msg.length ≤ 200)
set_option maxRecDepth 100000 in
set_option maxHeartbeats 2000000 in
theorem lng_any (a : Option Addr) (sb so n c : Nat) (xs : List Ac) (w : World) (hn : xs.length = n) (ha : 0 < n → a = some ⟨sb, so, none⟩ ∧ sb < w.heap.size) (hX : AcsAt w sb so xs) (hnb : n ≤ 9223372036854775807) :
    Calls Tryd.prog 13 #[.slice a n c] w fun e w' => LngOut w n xs e w' := by
  by_cases h40 : (40 : Int) < (n : Int)
  · go_enter Tryd.func13, Tryd.ntmps13
    go_wp2
    go_ret
    exact ⟨true, rfl, grown_refl _ _, fun h => by cases h⟩
  have HX := Lib.hid hX
  have HN := Lib.hid hn
  have HA := Lib.hid ha
  clear hX hn ha
  go_enter Tryd.func13, Tryd.ntmps13
  go_wp2
  go_loopw [10] (fun i wr => ∃ j : Nat, j ≤ n ∧ i = .int .i64 j ∧ w.grownBy wr none ∧ Hid (∀ q, q < j → (xs.getD q Ac.zero).dom.size ≤ 100 ∧ (xs.getD q Ac.zero).bs.length ≤ 200 ∧ (xs.getD q Ac.zero).msg.length ≤ 200)) (fun i _ => n - (intOf i).toNat)
  case atStart => exact ⟨0, by omega, rfl, grown_refl _ _, Lib.hid (fun q hq => absurd hq (Nat.not_lt_zero _))⟩
  case round =>
    obtain ⟨j, hj, rfl, hg, hq⟩ := hrel
    have HG := Lib.hid hg
    by_cases hjn : j < n
    · obtain ⟨rfl, hgl⟩ := HA.out (by omega)
      obtain ⟨v, u, e0, e1, e2, e3, e4, e5, b1, b2, b3, b4⟩ := HX.out j (by rw [HN.out]; exact hjn)
      have eg : ∀ o, wr.cell? ⟨sb, o, none⟩ = w.cell? ⟨sb, o, none⟩ := fun o => World.cell?_of_block (hg.block sb hgl (by simp))
      rw [← eg] at e0 e1 e2 e3 e4 e5
      obtain ⟨x, hx⟩ : ∃ x, x = xs.getD j Ac.zero := ⟨_, rfl⟩
      rw [← hx] at e0 e1 e2 e3 b1 b3
      obtain ⟨kd, ky, ol, dm, bs, ms⟩ := x
      obtain ⟨_, va, _, _, vc, rfl, _⟩ := b1
      obtain ⟨_, ua, _, _, uc, rfl, _⟩ := b3
      dsimp only at e0 e1 e2 e3 e4 e5
      obtain ⟨vl, hvl⟩ : ∃ vl, vl = bs.length := ⟨_, rfl⟩
      obtain ⟨ul, hul⟩ : ∃ ul, ul = ms.length := ⟨_, rfl⟩
      rw [← hvl] at e4
      rw [← hul] at e5
      have HXj : Hid (xs.getD j Ac.zero = ⟨kd, ky, ol, dm, bs, ms⟩ ∧ vl = bs.length ∧ ul = ms.length) := Lib.hid ⟨hx.symm, hvl, hul⟩
      have hsw : sb < wr.heap.size := Nat.lt_of_lt_of_le hgl hg.size
      clear eg hx hvl hul b2 b4 hg hgl
      by_cases hd1 : (100 : Int) < (dm.size : Int)
      · go_wp2
        go_ret
        exact ⟨true, rfl, grown_trans HG.out (World.grownBy_alloc _ _ _), fun h => by cases h⟩
      by_cases hd2 : (200 : Int) < (vl : Int)
      · go_wp2
        go_ret
        exact ⟨true, rfl, grown_trans HG.out (World.grownBy_alloc _ _ _), fun h => by cases h⟩
      by_cases hd3 : (200 : Int) < (ul : Int)
      · go_wp2
        go_ret
        exact ⟨true, rfl, grown_trans HG.out (World.grownBy_alloc _ _ _), fun h => by cases h⟩
      have HDD := Lib.hid (show dm.size ≤ 100 ∧ vl ≤ 200 ∧ ul ≤ 200 from ⟨by omega, by omega, by omega⟩)
      go_wp2
      go_roundw
      case rel =>
        exact ⟨j + 1, by omega, by go_num, grown_trans HG.out (World.grownBy_alloc _ _ _), Lib.hid (fun q hq' => by
          by_cases e : q = j
          · subst e
            obtain ⟨x1, x2, x3⟩ := HXj.out
            obtain ⟨y1, y2, y3⟩ := HDD.out
            rw [x1]
            exact ⟨y1, by rw [← x2]; exact y2, by rw [← x3]; exact y3⟩
          · exact hq.out q (by omega))⟩
      case measure => simp [intOf]; omega
    · obtain rfl : j = n := by omega
      clear hjn
      go_wp2
      go_ret
      exact ⟨false, rfl, HG.out, fun _ => ⟨by omega, hq.out⟩⟩
end Go.Proofs.YtgdnndapmcjoeaaDoor
namespace Go.Proofs.YtgdnndapmcjoeaaDoor
open Go.RowKit Go.Maps
set_option linter.unusedVariables false
/-- A call that hands back one value, guarded. -/
theorem wpQuiet_callG {P : Program} {ops : Array Oper} {C : World → Prop} {Q : Act → Prop} {a : Act} {o : Oper} {rest : List Oper} (hw : Region.wanted o (yielded ops a.tmps) = true) (f : FuncId) (args : Array Value) (v : Value)
    (hr : ∀ w, (execOp a.eval o).run P w = .ok (.enter f args) w)
    (hc : ∀ w, C w → Calls P f args w fun e w' => e = .returned v ∧ C w')
    (h : wpQuiet P ops C Q rest (a.put o.dst v)) : wpQuiet P ops C Q (o :: rest) a :=
  wpQuiet_step fun K hK => by
    rw [if_pos hw]
    refine ⟨v, fun w hw => ?_, hK _ h⟩
    unfold Oper.quietAt
    rw [hr w]
    exact ⟨rfl, hc w hw⟩
theorem PY.still {W0 w w' : World} {p N : Nat} (h : PY W0 p N w) (hg : w.grownBy w' none) : PY W0 p N w' := by
  obtain ⟨b, m, F, G, J, iv, tv, us, s, ids, told, hz, h1⟩ := h
  exact ⟨b, m, F, G, J, iv, tv, us, s, ids, told, hz.still hg, h1⟩
theorem PY.base {W0 w : World} {p N : Nat} (h : PY W0 p N w) : W0.grownBy w none := by
  obtain ⟨b, m, F, G, J, iv, tv, us, s, ids, told, hz, _⟩ := h
  exact hz.hp.base
theorem PY.start {W0 w w3 w5 : World} (hb : W0.grownBy w none) (h3 : w3 = w.alloc (.cells #[.map none, .map none] 83)) (h5 : w5 = (w3.alloc (.cells #[.slice none 0 0, .slice none 0 0] 43)).alloc (.cells #[.pointer (some ⟨w.heap.size, 0, none⟩), .pointer (some ⟨w3.heap.size, 0, none⟩), .slice none 0 0, .slice none 0 0] 47)) : PY W0 (w3.heap.size + 1) 0 w5 := by
  have e : w3.heap.size = w.heap.size + 1 := by rw [h3, alloc_size]
  rw [e]
  exact PZ.new hb (by rw [h5, e, h3])
theorem get_none {s : Rg} (h : GoodG s) : s.get ⟨#[110, 111, 110, 101]⟩ = none := by
  cases hg : s.get ⟨#[110, 111, 110, 101]⟩ with
  | none => rfl
  | some k =>
    have h1 := h.ki _ (h.got hg).1
    have h2 := id_size k
    have h1 : (⟨#[110, 111, 110, 101]⟩ : ByteArray) = idText k := h1
    rw [← h1] at h2
    exact absurd h2 (by decide)
set_option maxRecDepth 100000 in
set_option maxHeartbeats 4000000 in
theorem keysPlays_any (A : Nat → Addr) (a : Option Addr) (sb so n c : Nat) (xs : List Ac) (w : World) (hn : xs.length = n) (ha : 0 < n → a = some ⟨sb, so, none⟩ ∧ sb < w.heap.size) (hX : AcsAt w sb so xs) (hnb : n ≤ 9223372036854775807) (hE : AllErrs w A) (hL : Laid w) :
    Calls Tryd.prog 4 #[.slice a n c] w fun e w' => e = .returned (.bool true) ∧ w.grownBy w' none := by
  have HAl : Hid (Calls Tryd.prog 7 #[] w fun e w' => e = .returned (.bool true) ∧ w.grownBy w' none) := Lib.hid (alive10_any A w hE hL)
  have HLg : Hid (∀ W, w.grownBy W none → Calls Tryd.prog 13 #[.slice a n c] W fun e w' => LngOut W n xs e w') := Lib.hid (fun W hW => lng_any a sb so n c xs W hn (fun h => ⟨(ha h).1, Nat.lt_of_lt_of_le (ha h).2 hW.size⟩) (fun i hi => by
    obtain ⟨v, u, h1, h2, h3, h4, h5, h6, h7, h8, h9, h10⟩ := hX i hi
    have eg : ∀ o, W.cell? ⟨sb, o, none⟩ = w.cell? ⟨sb, o, none⟩ := fun o => World.cell?_of_block (hW.block sb (ha (by omega)).2 (by simp))
    exact ⟨v, u, by rw [eg]; exact h1, by rw [eg]; exact h2, by rw [eg]; exact h3, by rw [eg]; exact h4, by rw [eg]; exact h5, by rw [eg]; exact h6, h7.grown hW, h8, h9.grown hW, h10⟩) hnb)
  have HX := Lib.hid hX
  have HA := Lib.hid ha
  have HN := Lib.hid hn
  have HE := Lib.hid hE
  have HL := Lib.hid hL
  clear hX ha hn hE hL
  go_enter Tryd.func4, Tryd.ntmps4
  go_wp2_with (first
    | (go_at_call 7; refine HAl.out.mono ?_; rintro e w1 ⟨rfl, hg1⟩; have G1 := Lib.hid hg1; clear hg1)
    | (go_at_call 13; refine (HLg.out w1 G1.out).mono ?_; rintro e w2 ⟨r, rfl, hg2, hr⟩; have G2 := Lib.hid (grown_trans G1.out hg2); have HR := Lib.hid hr; clear hg2 hr)
    | (go_at_call 14; refine (gnew_any w2).mono ?_; rintro e w3 ⟨rfl, hw3⟩; have HW3 := Lib.hid hw3; clear hw3))
  · go_ret
    exact ⟨rfl, G2.out⟩
  have hrf : r = false := by assumption
  have HS := Lib.hid (HR.out hrf)
  have hn40 : n ≤ 40 := HS.out.1
  obtain ⟨W5, hW5⟩ : ∃ W5, W5 = ((w3.alloc (.cells #[.slice none 0 0, .slice none 0 0] 43)).alloc (.cells #[.pointer (some ⟨w2.heap.size, 0, none⟩), .pointer (some ⟨w3.heap.size, 0, none⟩), .slice none 0 0, .slice none 0 0] 47)) := ⟨_, rfl⟩
  have HP0 := Lib.hid (PY.start G2.out HW3.out hW5)
  rw [← hW5]
  obtain ⟨p, hp⟩ : ∃ p, p = w3.heap.size + 1 := ⟨_, rfl⟩
  rw [← hp] at HP0 ⊢
  clear hW5 hrf hp
  go_loopw [19] (fun i wr => ∃ j : Nat, j ≤ n ∧ i = .int .i64 j ∧ PY w p j wr) (fun i _ => n - (intOf i).toNat)
  case atStart => exact ⟨0, by omega, rfl, HP0.out⟩
  case round =>
    obtain ⟨j, hj, rfl, hP⟩ := hrel
    have HP := Lib.hid hP
    have hg := hP.base
    have HG := Lib.hid hg
    by_cases hjn : j < n
    · obtain ⟨rfl, hgl⟩ := HA.out (by omega)
      obtain ⟨v, u, e0, e1, e2, e3, e4, e5, b1, b2, b3, b4⟩ := HX.out j (by rw [HN.out]; exact hjn)
      have eg : ∀ o, wr.cell? ⟨sb, o, none⟩ = w.cell? ⟨sb, o, none⟩ := fun o => World.cell?_of_block (hg.block sb hgl (by simp))
      rw [← eg] at e0 e1 e2 e3 e4 e5
      obtain ⟨l1, l2, l3⟩ := HS.out.2 j hjn
      obtain ⟨x, hx⟩ : ∃ x, x = xs.getD j Ac.zero := ⟨_, rfl⟩
      rw [← hx] at e0 e1 e2 e3 b1 b3 l1 l2 l3
      obtain ⟨kd, ky, ol, dm, bs, ms⟩ := x
      have B1 := Lib.hid b1
      have B3 := Lib.hid b3
      obtain ⟨_, va, _, _, vc, rfl, _⟩ := b1
      obtain ⟨_, ua, _, _, uc, rfl, _⟩ := b3
      dsimp only at e0 e1 e2 e3 e4 e5 l1 l2 l3 B1 B3
      obtain ⟨vl, hvl⟩ : ∃ vl, vl = bs.length := ⟨_, rfl⟩
      obtain ⟨ul, hul⟩ : ∃ ul, ul = ms.length := ⟨_, rfl⟩
      rw [← hvl] at e4 B1 b2
      rw [← hul] at e5 B3 b4
      have HV0 := Lib.hid b2
      have HU0 := Lib.hid b4
      have HLn := Lib.hid (show bs.length = vl ∧ ms.length = ul ∧ vl ≤ 200 ∧ ul ≤ 200 ∧ dm.size ≤ 100 from ⟨hvl.symm, hul.symm, by omega, by omega, l1⟩)
      have hsw : sb < wr.heap.size := Nat.lt_of_lt_of_le hgl hg.size
      have HDo : Hid (∀ W, wr.grownBy W none → Calls Tryd.prog 15 #[.pointer (some ⟨p, 0, none⟩), .agg #[.int .i64 kd, .int .i64 ky, .int .i64 ol, .string dm, .slice va vl vc, .slice ua ul uc]] W fun e w' => e = .returned (.bool true) ∧ PY w p (j + 1) w') := Lib.hid (fun W hW =>
        do_any HE.out HL.out (HP.out.still hW) (by omega) kd ky ol dm va vl vc ua ul uc bs ms B1.out HV0.out HLn.out.1 B3.out HU0.out HLn.out.2.1 HLn.out.2.2.1 HLn.out.2.2.2.1 HLn.out.2.2.2.2)
      clear eg hx hvl hul b2 b4 hg hgl l1 l2 l3 hP
      go_wp2
      obtain ⟨W4, hW4⟩ : ∃ W4, W4 = wr.alloc (.cells #[.int .i64 kd, .int .i64 ky, .int .i64 ol, .string dm, .slice va vl vc, .slice ua ul uc] 49) := ⟨_, rfl⟩
      have G4 : Hid (wr.grownBy W4 none) := Lib.hid (by rw [hW4]; exact World.grownBy_alloc _ _ _)
      have hb4 : W4.heap[wr.heap.size]? = some (.cells #[.int .i64 kd, .int .i64 ky, .int .i64 ol, .string dm, .slice va vl vc, .slice ua ul uc] 49 (0, 0)) := by rw [hW4]; exact alloc_at _ _
      rw [← hW4]
      have q0 := cell_blk hb4 0 rfl
      have q1 := cell_blk hb4 1 rfl
      have q2 := cell_blk hb4 2 rfl
      have q3 := cell_blk hb4 3 rfl
      have q4 := cell_blk hb4 4 rfl
      have q5 := cell_blk hb4 5 rfl
      clear hW4 hb4 e0 e1 e2 e3 e4 e5
      refine go_start (by kernel_rfl) (go_seg (fun w' => ∃ n, w' = W4.drewN n) 2 (by kernel_rfl) ⟨1, rfl⟩ ?_)
      simp only [List.drop_succ_cons, List.drop_zero, Nat.sub_zero, Nat.reduceSub, List.take_succ_cons, List.take_zero]
      repeat (go_big_quiet_step (fail))
      refine wpQuiet_nil ?_
      rintro _ ⟨n3, rfl⟩
      refine go_one (by kernel_rfl) _ rfl ?_
      go_wp2_with (go_at_call 15; refine (HDo.out _ (grown_trans G4.out (grown_drewN (grown_refl _ _) _))).mono ?_; rintro e w5 ⟨rfl, hpy⟩; have HP5 := Lib.hid hpy; clear hpy)
      clear q0 q1 q2 q3 q4 q5
      obtain ⟨b, m, F, G, J, iv, tv, us, s, ids, told, hz, z1, z2, z3, z4⟩ := HP5.out
      have HZ := Lib.hid hz
      obtain ⟨kv, bv, ys, hm, hms⟩ := hz.hr.body
      obtain ⟨⟨_, la, lg, lo, lc, rfl, _, _⟩, _⟩ := hms.now.2
      obtain ⟨_, ia, ig, io, ic, rfl, i2, i3⟩ := hz.rows.now.1
      obtain ⟨BL, hBL⟩ : ∃ BL, BL = s.bk.length := ⟨_, rfl⟩
      obtain ⟨L, hL⟩ : ∃ L, L = ids.length := ⟨_, rfl⟩
      have c0 : w5.cell? ⟨p, 0, none⟩ = some (.pointer (some ⟨b, 0, none⟩)) := cell_blk hz.blk 0 rfl
      have c1 : w5.cell? ⟨p, 1, none⟩ = some (.pointer (some ⟨m, 0, none⟩)) := cell_blk hz.blk 1 rfl
      have c2 : w5.cell? ⟨m, 1, none⟩ = some (.slice la s.bk.length lc) := cell_blk hm 1 rfl
      rw [← hBL] at c2
      have HSd : Hid (∀ n, Calls Tryd.prog 16 #[.pointer (some ⟨b, 0, none⟩)] (w5.drewN n) fun e w' => e = .returned (.int .i64 (BL : Nat)) ∧ ∃ n, w' = w5.drewN n) := Lib.hid (fun n => by
        rw [hBL]
        exact (pgSigned (HZ.out.still (grown_drewN (grown_refl w5 none) n)).hp).mono (fun e w' h => ⟨h.1, n, h.2⟩))
      have HHn : Hid (∀ n, Calls Tryd.prog 17 #[.pointer (some ⟨b, 0, none⟩), .string ⟨#[110, 111, 110, 101]⟩] (w5.drewN n) fun e w' => e = .returned (.bool false) ∧ w5.grownBy w' none) := Lib.hid (fun n => by
        have hzz := HZ.out.still (grown_drewN (grown_refl w5 none) n)
        have := pgHas hzz.hp ⟨#[110, 111, 110, 101]⟩ (by decide)
        rw [get_none hzz.hp.good] at this
        exact this.mono (fun e w' h => ⟨h.1, grown_trans (grown_drewN (grown_refl w5 none) n) h.2⟩))
      have HHi : Hid (∀ W q, w5.grownBy W none → q < L → Calls Tryd.prog 17 #[.pointer (some ⟨b, 0, none⟩), .string (ids.getD q ⟨#[]⟩)] W fun e w' => e = .returned (.bool true) ∧ W.grownBy w' none) := Lib.hid (fun W q hW hq => by
        have hzz := HZ.out.still hW
        rw [hL] at hq
        have hmem : ids.getD q ⟨#[]⟩ ∈ ids := by
          rw [List.getD_eq_getElem?_getD, List.getElem?_eq_getElem hq]; exact List.getElem_mem hq
        obtain ⟨h1, h2⟩ := hzz.kn _ hmem
        have := pgHas hzz.hp (ids.getD q ⟨#[]⟩) (by omega)
        rw [h1] at this
        exact this)
      have HI2 : Hid (∀ W, w5.grownBy W none → W.cell? ⟨p, 0, none⟩ = some (.pointer (some ⟨b, 0, none⟩)) ∧ W.cell? ⟨p, 2, none⟩ = some (.slice ia L ic)) := Lib.hid (fun W hW => by
        have hzz := HZ.out.still hW
        exact ⟨cell_blk hzz.blk 0 rfl, by rw [hL]; exact cell_blk hzz.blk 2 rfl⟩)
      have HI3 : Hid (∀ W q, w5.grownBy W none → q < L → ia = some ⟨ig, io, none⟩ ∧ ig < w5.heap.size ∧ W.cell? ⟨ig, io + q, none⟩ = some (.string (ids.getD q ⟨#[]⟩))) := Lib.hid (fun W q hW hq => by
        rw [hL] at hq
        obtain ⟨h1, h2⟩ := i2 (by omega)
        refine ⟨h1, h2, ?_⟩
        rw [World.cell?_of_block (hW.block ig h2 (by simp))]
        exact i3 q _ (by rw [List.getElem?_map, List.getD_eq_getElem?_getD, List.getElem?_eq_getElem hq]; rfl))
      have HLb : Hid (L ≤ 100) := Lib.hid (by omega)
      clear hz hm hms i2 i3 hBL hL z1 z2 z3 z4
      refine go_seg (fun w' => ∃ n, w' = w5.drewN n) 25 (by kernel_rfl) ⟨0, rfl⟩ ?_
      simp only [List.drop_succ_cons, List.drop_zero, Nat.sub_zero, Nat.reduceSub, List.take_succ_cons, List.take_zero]
      iterate 6 (go_big_quiet_step (fail))
      refine wpQuiet_callG (by rfl) 16 #[.pointer (some ⟨b, 0, none⟩)] (.int .i64 (BL : Nat)) (fun _ => by simp [go_sem]) (fun w' hw' => by
        obtain ⟨n, rfl⟩ := hw'
        exact HSd.out n) ?_
      simp only [Act.put, List.setIfInBounds_toArray, List.set_cons_succ, List.set_cons_zero]
      repeat (go_big_quiet_step (fail))
      refine wpQuiet_nil ?_
      rintro _ ⟨n4, rfl⟩
      refine go_one (by kernel_rfl) _ rfl ?_
      go_wp2_with (go_at_call 17; refine (HHn.out _).mono ?_; rintro e w6 ⟨rfl, hg6⟩; have G6 := Lib.hid hg6; clear hg6)
      refine go_tail (by kernel_rfl) ?_
      simp only [List.drop_succ_cons, List.drop_zero]
      clear c0 c1 c2
      obtain ⟨d0, d2⟩ := HI2.out w6 G6.out
      go_wp2
      go_loopw [55] (fun i wr => ∃ q : Nat, q ≤ L ∧ i = .int .i64 q ∧ w5.grownBy wr none) (fun i _ => L - (intOf i).toNat)
      case atStart => exact ⟨0, by omega, rfl, G6.out⟩
      case round =>
        obtain ⟨q, hq, rfl, hg2⟩ := hrel
        have HG2 := Lib.hid hg2
        have hLb := HLb.out
        by_cases hqL : q < L
        · obtain ⟨rfl, hgl, ec⟩ := HI3.out wr q hg2 hqL
          obtain ⟨I, hI⟩ : ∃ I, I = ids.getD q ⟨#[]⟩ := ⟨_, rfl⟩
          rw [← hI] at ec
          have HHq : Hid (Calls Tryd.prog 17 #[.pointer (some ⟨b, 0, none⟩), .string I] wr fun e w' => e = .returned (.bool true) ∧ wr.grownBy w' none) := Lib.hid (by rw [hI]; exact HHi.out wr q hg2 hqL)
          have d0' := (HI2.out wr hg2).1
          have hgw : ig < wr.heap.size := Nat.lt_of_lt_of_le hgl hg2.size
          clear hI hgl hg2
          go_wp2_with (go_at_call 17; refine HHq.out.mono ?_; rintro e w7 ⟨rfl, hg7⟩; have G7 := Lib.hid hg7; clear hg7)
          go_roundw
          case rel => exact ⟨q + 1, by omega, by go_num, grown_trans HG2.out G7.out⟩
          case measure => simp [intOf]; omega
        · obtain rfl : q = L := by omega
          clear hqL
          go_wp2
          go_roundw
          case rel => exact ⟨j + 1, by omega, by go_num, HP5.out.still HG2.out⟩
          case measure => simp [intOf]; omega
    · obtain rfl : j = n := by omega
      clear hjn
      go_wp2
      go_ret
      exact ⟨rfl, HG.out⟩
end Go.Proofs.YtgdnndapmcjoeaaDoor
