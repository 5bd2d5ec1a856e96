import Derived.Test.YtihioekepflpiaaGreatDoorZb00
import Derived.Test.YtihioekepflpiaaGreatDoorZb01
import Derived.Test.YtihioekepflpiaaGreatDoorZb03
import Derived.Test.YtihioekepflpiaaGreatDoorZb05
import Derived.Test.YtihioekepflpiaaGreatDoorZb06
import Derived.Test.YtihioekepflpiaaGreatDoorZb08
import Derived.Test.YtihioekepflpiaaGreatDoorZb09
import Derived.Test.YtihioekepflpiaaGreatDoorZb10
import Derived.Test.YtihioekepflpiaaGreatDoorZb11
import Derived.Test.YtihioekepflpiaaGreatDoorZb12
import Derived.Test.YtihioekepflpiaaGreatDoorZb13
import Derived.Test.YtihioekepflpiaaGreatDoorZb15
import Derived.Test.YtihioekepflpiaaGreatDoorZb16
import Derived.Test.YtihioekepflpiaaGreatDoorZb17
import Derived.Test.YtihioekepflpiaaGreatDoorZb19
import Derived.Test.YtihioekepflpiaaGreatDoorZb20
import Derived.Test.YtihioekepflpiaaGreatDoorZb21
import Derived.Test.YtihioekepflpiaaGreatDoorZb22
import Derived.Test.YtihioekepflpiaaGreatDoorZb23
import Derived.Test.YtihioekepflpiaaGreatDoorZb24
import Derived.Test.YtihioekepflpiaaGreatDoorZb32
import Derived.Test.YtihioekepflpiaaGreatDoorZb33
import Derived.Test.YtihioekepflpiaaGreatDoorZb34
import Derived.Test.YtihioekepflpiaaGreatDoorZb44
import Derived.Test.YtihioekepflpiaaGreatDoorZb45
import Derived.Test.YtihioekepflpiaaGreatDoorChecked
import Derived.KernelRfl
import Derived.Laws.Slices
import Derived.Laws.AppendOwnNone
import Derived.Laws.BytesArg
import Derived.Lib.AppendStr
import Derived.OwnWalk
import Derived.WalkKit
import Derived.Deep.MidRow
import Derived.Deep.Draws
import Derived.BigQuiet
import Derived.Lib.Hide
import Derived.LaidEql
import Derived.Stop.Asserts
import Derived.RowKitTokens
import Derived.Laws.Rows
import Derived.Laws.Tables
import Derived.DeepKeys5
import Derived.Handy
import Derived.Deep.Quiet
import Derived.Deep.QuietTactic
import Derived.StillTail
import Derived.Maps.Keyed
import Derived.Maps.OwnSet
import Derived.Lib.Bytealg
import Derived.Laws.Externs
import Derived.Test.YtihioekepflpiaaGreatDoorRows
import Derived.WalkSpells
import Derived.WalkLawsBesides
import Derived.Laws.BitsAllLaws
import Derived.Lib.BitFns
import Derived.Lib.Strings
import Derived.Lib.Slices
import Derived.Lib.Small
import Derived.Lib.Walk
import Derived.LoopTactic
import Derived.Deep.DeepCutAuto
import Derived.Laws.RangeString
import Derived.Laws.RangeAny
import Derived.Lib.RuneCount
import Derived.Lib.TrimUEq
import Derived.Lib.ValidLaws
import Derived.Lib.DecodeN
import Derived.Deep.RegionHeld3
import Derived.Lib.SmallJoins
import Derived.Laws.OwnMore
import Derived.Lib.SliceRun
import Derived.Shelf.SlGeneric
import Derived.Shelf.SlSortCmp.WholeK
import Derived.Shelf.SlLaysF0
import Derived.Test.YtihioekepflpiaaGreatDoorProg
import Derived.Deep.RegionLaw
import Derived.Laws.IdiomCopy
import Derived.Laws.StructEq
namespace Go.Proofs.YtihioekepflpiaaGreatDoor
open Go.RowKit
set_option linter.unusedVariables false
theorem cellsI_one (l : List Int) : ∀ u ∈ cellsI l, u.oneCell' = true := by
  intro u hu
  simp only [cellsI, List.mem_map] at hu
  obtain ⟨z, _, rfl⟩ := hu
  rfl
section
variable {P : Program}
/-- 'append(s, x...)', x a slice of ints. -/
theorem wpList_appI {w : World} {ops : Array Oper} {rest : List Oper} {o : Oper} {a : Act} {Q : Exit → Act → World → Prop} (hgd : o.guard = none) (s x : Operand) (t : TypeId)
    (ho : o.op = .call { callee := .builtin .append, args := #[s, x], argTypes := #[t, t] })
    (base : Nat) (e : TypeId) (z : Value) (bytes : Nat) (ht : P.underlying t = some (.slice e)) (hi : (P.info? e).map (fun i => (i.zero, i.size, i.bytes)) = some (some z, 1, bytes)) (hzs : z.cells.size = 1) (hby : bytes ≤ 64)
    (v : Value) (n : Nat) (xs : List Value) (hs : a.eval s = v) (hown : w.ownsRow base e 1 v n xs)
    (u : Value) (l : List Int) (hx : a.eval x = u) (hB : Ints w u l) (h0 : Whole0 u)
    (h63 : n + l.length ≤ 1099511627776) (hbase : base ≤ w.heap.size)
    (h : ∀ v' w', w'.ownsRow base e 1 v' (n + l.length) (xs ++ cellsI l) → w.grownBy w' v.ownBlock → wpList P ops Q rest (a.put o.dst v') w') : wpList P ops Q (o :: rest) a w := by
  obtain ⟨i, h1', h2', h3', h4'⟩ := info_parts hi
  obtain ⟨ad, sb, so, c, rfl, hc, ha, hcell⟩ := hB
  match ad with
  | none =>
    obtain ⟨hn0, rfl⟩ := h0 _ _ rfl
    obtain rfl := List.eq_nil_of_length_eq_zero hn0
    refine wpList_append_own_none hgd s x t ho base e i 1 ht h1' v n xs hs hown hx (h v w ?_ (grown_refl _ _))
    simpa [cellsI] using hown
  | some ad =>
    refine wpList_append_own w hgd s x t ho base e i z 1 bytes ht h1' h2' h3' h4' hzs (by decide) v n xs hs hown ad l.length c (cellsI l) hx (by simp [cellsI]) ?_ (cellsI_one l) ?_ ?_ hbase (fun v' w' a1 a2 _ => h v' w' a1 a2)
    · intro j u' hj
      have hjl : j < l.length := by
        have := (List.getElem?_eq_some_iff.1 hj).1
        simpa [cellsI] using this
      obtain ⟨e1, _⟩ := ha (by omega)
      obtain rfl := Option.some.inj e1
      rw [addr_addO, hcell j hjl, ← cellsI_at l j hjl, hj]
    · unfold maxLen; omega
    · exact Nat.le_trans (Nat.mul_le_mul_left _ hby) (by omega)
end
end Go.Proofs.YtihioekepflpiaaGreatDoor
namespace Go.Proofs.YtihioekepflpiaaGreatDoor
open Go.RowKit
set_option linter.unusedVariables false
theorem retBo {a b : Bool} (h : a = b) : Ending.returned (.bool a) = .returned (.bool b) := by rw [h]
set_option maxRecDepth 100000 in
set_option maxHeartbeats 1000000 in
theorem sameI_any (v1 v2 : Value) (l m : List Int) (w : World) (h1 : Ints w v1 l) (h2 : Ints w v2 m) (hl : l.length ≤ 1099511627776) (hm : m.length ≤ 1099511627776) :
    Calls Tryz.prog 17 #[v1, v2] w fun e w' => e = .returned (.bool (decide (l = m))) ∧ ∃ q, w' = w.drewN q := by
  obtain ⟨a1, g1, o1, c1, rfl, k1, k2, k3⟩ := h1
  obtain ⟨a2, g2, o2, c2, rfl, m1, m2, m3⟩ := h2
  by_cases hlen : l.length = m.length
  · have K2 := Lib.hid k2
    have K3 := Lib.hid k3
    rw [← hlen] at m1 m2 m3 ⊢
    have M2 := Lib.hid m2
    have M3 := Lib.hid m3
    have HT : Hid ((∀ j, j < l.length → l.getD j 0 = m.getD j 0) → decide (l = m) = true) := Lib.hid (fun h => decide_eq_true (List.ext_getElem hlen (fun j h1 h2 => by
      have := h j h1
      rw [List.getD_eq_getElem?_getD, List.getD_eq_getElem?_getD, List.getElem?_eq_getElem h1, List.getElem?_eq_getElem h2] at this
      simpa using this)))
    have HF : Hid (∀ j, l.getD j 0 ≠ m.getD j 0 → decide (l = m) = false) := Lib.hid (fun j h => decide_eq_false (fun e => h (by rw [e])))
    obtain ⟨n, hn⟩ : ∃ n, n = l.length := ⟨_, rfl⟩
    rw [← hn] at K2 K3 M2 M3 hl k1 m1 HT ⊢
    clear hn k2 k3 m2 m3 hm hlen
    generalize decide (l = m) = D at *
    go_enter Tryz.func17, Tryz.ntmps17
    go_wp2
    go_loopw [13] (fun i wr => ∃ k q : Nat, k ≤ n ∧ i = .int .i64 k ∧ wr = w.drewN q ∧ ∀ j, j < k → l.getD j 0 = m.getD j 0) (fun i _ => n - (intOf i).toNat)
    case atStart => exact ⟨0, 0, Nat.zero_le _, rfl, rfl, fun j hj => absurd hj (Nat.not_lt_zero _)⟩
    case round =>
      obtain ⟨k, q, hk, rfl, rfl, hall⟩ := hrel
      have HAll := Lib.hid hall
      clear hall
      by_cases hlt : k < n
      · obtain ⟨rfl, _⟩ := K2.out (by omega)
        obtain ⟨rfl, _⟩ := M2.out (by omega)
        have f1 := K3.out k hlt
        have f2 := M3.out k hlt
        by_cases hxy : l.getD k 0 = m.getD k 0
        · have HXY := Lib.hid hxy
          rw [← hxy] at f2
          clear hxy
          generalize hx : l.getD k 0 = x at *
          have hb : (x != x) = false := by simp
          have HX := Lib.hid hx
          clear hx
          go_wp2
          go_quiet (fail)
          go_wp2
          go_roundw
          case rel => exact ⟨k + 1, _, by omega, by go_num, rfl, fun j hj => (by
            rcases Nat.lt_or_ge j k with h | h
            · exact HAll.out j h
            · obtain rfl : j = k := by omega
              rw [HX.out]; exact HXY.out)⟩
          case measure => simp [intOf]; omega
        · have hD := HF.out k hxy
          generalize l.getD k 0 = x at *
          generalize m.getD k 0 = y at *
          have hb : (x != y) = true := by simp [hxy]
          clear hxy
          go_wp2
          go_quiet (fail)
          go_wp2
          go_ret
          exact ⟨retBo hD.symm, q + nq, by simp [World.drewN, Nat.add_assoc]⟩
      · obtain rfl : k = n := by omega
        have hD := HT.out HAll.out
        go_wp2
        go_ret
        exact ⟨retBo hD.symm, _, rfl⟩
  · have hD : decide (l = m) = false := decide_eq_false (fun e => hlen (by rw [e]))
    rw [hD]
    clear hD k2 k3 m2 m3
    generalize l.length = n at *
    generalize m.length = n' at *
    have hb : ((n : Int) != (n' : Int)) = true := by simp; omega
    go_enter Tryz.func17, Tryz.ntmps17
    go_wp2
    go_ret
    exact ⟨rfl, 0, rfl⟩
end Go.Proofs.YtihioekepflpiaaGreatDoor
namespace Go.Proofs.YtihioekepflpiaaGreatDoor
open Go.RowKit Bu
set_option linter.unusedVariables false
set_option linter.unusedSimpArgs false
set_option maxRecDepth 100000 in
set_option maxHeartbeats 4000000 in
theorem anEqual_any (v u : Value) (l m : List An) (w : World) (hA : Ans w v l) (hB : Ans w u m) (hl : l.length ≤ 2000) (hm : m.length ≤ 2000) :
    Calls Tryz.prog 32 #[v, u] w fun e w' => (∃ b : Bool, e = .returned (.bool b) ∧ (b = true ↔ l = m)) ∧ w.grownBy w' none := by
  obtain ⟨a1, b1, s1, c1, rfl, ha1, _, hx1⟩ := hA.form
  obtain ⟨a2, b2, s2, c2, rfl, ha2, _, hx2⟩ := hB.form
  have HX1 := Lib.hid (Ans.cells_at ha1 hx1)
  have HX2 := Lib.hid (Ans.cells_at ha2 hx2)
  by_cases hnm : l.length = m.length
  · have HEx : Hid ((∀ j, j < l.length → l.getD j an0 = m.getD j an0) → l = m) := Lib.hid (fun h => an_ext hnm h)
    obtain ⟨N, hN⟩ : ∃ N, N = l.length := ⟨_, rfl⟩
    have HA1 : Hid (0 < N → a1 = some ⟨b1, s1, none⟩) := Lib.hid (fun h => (ha1 (by omega)).1)
    have HA2 : Hid (0 < N → a2 = some ⟨b2, s2, none⟩) := Lib.hid (fun h => (ha2 (by omega)).1)
    rw [← hN] at HX1 HEx hnm ⊢
    rw [← hnm] at HX2 ⊢
    have hNl : N ≤ 2000 := by omega
    clear hA hB hl hm ha1 ha2 hx1 hx2 hN hnm
    go_enter Tryz.func32, Tryz.ntmps32
    go_wp2
    go_loopw [13, 5] (fun i _ wr => ∃ k : Nat, k ≤ N ∧ i = .int .i64 (k : Int) ∧ w.grownBy wr none ∧ ∀ j, j < k → l.getD j an0 = m.getD j an0) (fun i _ _ => N - (intOf i).toNat)
    case atStart => exact ⟨0, by omega, rfl, grown_refl _ _, fun j hj => absurd hj (Nat.not_lt_zero _)⟩
    case round =>
      obtain ⟨k, hk, rfl, hg, h0⟩ := hrel
      have HG := Lib.hid hg
      have H0 := Lib.hid h0
      clear hg h0
      by_cases hkN : k < N
      · obtain ⟨x0, x1, x2, x3⟩ := HX1.out wr HG.out k hkN
        obtain ⟨y0, y1, y2, y3⟩ := HX2.out wr HG.out k hkN
        obtain rfl := HA1.out (by omega)
        have ha2 := HA2.out (by omega)
        try subst ha2
        try clear ha2
        by_cases he : l.getD k an0 = m.getD k an0
        · have HN2 : Hid (∀ j, j < k + 1 → l.getD j an0 = m.getD j an0) := Lib.hid (fun j hj => by
            rcases Nat.lt_or_ge j k with h | h
            · exact H0.out j h
            · obtain rfl : j = k := by omega
              exact he)
          rw [← he] at y0 y1 y2 y3
          generalize (l.getD k an0).g = p1 at *
          generalize (l.getD k an0).k = p2 at *
          generalize (l.getD k an0).f = p3 at *
          generalize (l.getD k an0).t = p4 at *
          clear he
          go_wp2
          go_quiet (fail)
          go_wp2
          go_roundw
          case rel => exact ⟨k + 1, by omega, by go_num, grown_drewN HG.out _, HN2.out⟩
          case measure => simp [intOf] <;> omega
        · have HNe : Hid (l ≠ m) := Lib.hid (fun h => he (by rw [h]))
          have hc := an_ne he
          generalize (l.getD k an0).g = p1 at *
          generalize (l.getD k an0).k = p2 at *
          generalize (l.getD k an0).f = p3 at *
          generalize (l.getD k an0).t = p4 at *
          generalize (m.getD k an0).g = q1 at *
          generalize (m.getD k an0).k = q2 at *
          generalize (m.getD k an0).f = q3 at *
          generalize (m.getD k an0).t = q4 at *
          clear he
          rcases hc with hc | ⟨rfl, hc⟩ | ⟨rfl, rfl, hc⟩ | ⟨rfl, rfl, rfl, hc⟩
          all_goals
            go_wp2
            go_quiet (fail)
            go_wp2
            go_ret
            exact ⟨⟨false, rfl, ⟨fun h => (by cases h), fun h => absurd h HNe.out⟩⟩, grown_drewN HG.out _⟩
      · obtain rfl : k = N := by omega
        have HY := Lib.hid (HEx.out H0.out)
        go_wp2
        go_ret
        exact ⟨⟨true, rfl, ⟨fun _ => HY.out, fun _ => rfl⟩⟩, HG.out⟩
  · have hne : ¬ (l.length : Int) = (m.length : Int) := by omega
    have HNe : Hid (l ≠ m) := Lib.hid (fun h => hnm (by rw [h]))
    clear hA hB hl hm ha1 ha2 hx1 hx2 hnm HX1 HX2
    generalize l.length = N at *
    generalize m.length = M at *
    go_enter Tryz.func32, Tryz.ntmps32
    go_wp2
    go_ret
    exact ⟨⟨false, rfl, ⟨fun h => (by cases h), fun h => absurd h HNe.out⟩⟩, grown_refl _ _⟩
set_option maxRecDepth 100000 in
set_option maxHeartbeats 4000000 in
theorem bsame_any (v u : Int) (sp sq : ByteArray) (a b : Value) (l m : List An) (w : World) (hA : Ans w a l) (hB : Ans w b m) (hl : l.length ≤ 2000) (hm : m.length ≤ 2000) :
    Calls Tryz.prog 16 #[bval v sp a, bval u sq b] w fun e w' => (∃ q : Bool, e = .returned (.bool q) ∧ (q = true ↔ (v = u ∧ sp = sq ∧ l = m))) ∧ w.grownBy w' none := by
  obtain ⟨w1, hw1⟩ : ∃ w1, w1 = (w.alloc (.cells #[.int .i64 v, .string sp, a] 24)).alloc (.cells #[.int .i64 u, .string sq, b] 24) := ⟨_, rfl⟩
  have hg1 : w.grownBy w1 none := by rw [hw1]; exact grown_alloc (World.grownBy_alloc _ _ _) _
  have b0 : w1.heap[w.heap.size]? = some (.cells #[.int .i64 v, .string sp, a] 24 (0, 0)) := by rw [hw1]; exact alloc2_old _ _ _
  have b1 : w1.heap[w.heap.size + 1]? = some (.cells #[.int .i64 u, .string sq, b] 24 (0, 0)) := by rw [hw1]; exact alloc2_new _ _ _
  have HEq := Lib.hid (anEqual_any a b l m w1 (hA.grown hg1) (hB.grown hg1) hl hm)
  obtain ⟨a1, g1, s1, c1, rfl, _, _, _⟩ := hA.form
  obtain ⟨a2, g2, s2, c2, rfl, _, _, _⟩ := hB.form
  have HW1 := Lib.hid hw1
  have HG1 := Lib.hid hg1
  unfold bval
  by_cases hv : v = u
  · subst hv
    by_cases hs : sp = sq
    · subst hs
      clear hA hB hl hm hw1 hg1 b0 b1
      go_enter Tryz.func16, Tryz.ntmps16
      go_wp2_with (go_at_call 32; rw [← HW1.out]; refine HEq.out.mono ?_; rintro e w2 ⟨⟨q, rfl, hq⟩, hg2⟩; have HQ := Lib.hid hq; have HG2 := Lib.hid (grown_trans HG1.out hg2); clear hq hg2)
      go_ret
      exact ⟨⟨q, rfl, by rw [HQ.out]; simp⟩, HG2.out⟩
    · have hs2 : ¬ sp.toList = sq.toList := fun h => hs (strT_inj h)
      clear hA hB hl hm hw1 hg1 b0 b1
      go_enter Tryz.func16, Tryz.ntmps16
      go_wp2
      go_ret
      exact ⟨⟨false, rfl, by simp [hs]⟩, by rw [← HW1.out]; exact HG1.out⟩
  · have hv2 : (v == u) = false := by rw [beq_eq_false_iff_ne]; exact hv
    clear hA hB hl hm hw1 hg1 b0 b1
    go_enter Tryz.func16, Tryz.ntmps16
    go_wp2
    go_ret
    exact ⟨⟨false, rfl, by simp [hv]⟩, by rw [← HW1.out]; exact HG1.out⟩
end Go.Proofs.YtihioekepflpiaaGreatDoor
namespace Go.Proofs.YtihioekepflpiaaGreatDoor
set_option linter.unusedVariables false
namespace Bu
def Rz (b a : An) : Prop := b.g < a.g ∧ b.k ≠ a.k
theorem okAn_parts' {a : An} (h : okAn a = true) : a.k.size ≤ 1000 := by
  unfold okAn okKey at h
  simp only [Bool.and_eq_true, decide_eq_true_eq] at h
  have := h.1.1
  rw [strL_len] at this
  omega
theorem label_sz {s : ByteArray} (h : Pt.label (strL s) = true) : s.size ≤ 1000 := by
  unfold Pt.label at h
  rw [Bool.and_eq_true, decide_eq_true_eq, strL_len] at h
  omega
theorem docA_iff : ∀ (l dn : List An), docA dn l = true ↔ (∀ x ∈ l, okAn x = true) ∧ (∀ x ∈ l, ∀ b ∈ dn, Rz b x) ∧ l.Pairwise Rz
  | [], dn => by simp [docA]
  | a :: r, dn => by
    rw [docA, Bool.and_eq_true, docA_iff r (dn ++ [a])]
    unfold okAt
    rw [Bool.and_eq_true, List.all_eq_true, List.pairwise_cons]
    constructor
    · rintro ⟨⟨h1, h2⟩, h3, h4, h5⟩
      refine ⟨fun x hx => ?_, fun x hx b hb => ?_, fun x hx => h4 x hx a (by simp), h5⟩
      · rcases List.mem_cons.1 hx with rfl | hx
        · exact h1
        · exact h3 x hx
      · rcases List.mem_cons.1 hx with rfl | hx
        · have := h2 b hb
          simp only [Bool.and_eq_true, decide_eq_true_eq] at this
          exact this
        · exact h4 x hx b (by simp [hb])
    · rintro ⟨h1, h2, h3, h4⟩
      refine ⟨⟨h1 a (by simp), fun b hb => ?_⟩, fun x hx => h1 x (by simp [hx]), fun x hx b hb => ?_, h4⟩
      · have := h2 a (by simp) b hb
        simp only [Bool.and_eq_true, decide_eq_true_eq]
        exact this
      · rcases List.mem_append.1 hb with hb | hb
        · exact h2 x (by simp [hx]) b hb
        · rw [List.mem_singleton.1 hb]; exact h3 x hx
theorem okL_iff (l : List An) : okL l = true ↔ (1 ≤ l.length ∧ l.length ≤ 8) ∧ (∀ x ∈ l, okAn x = true) ∧ l.Pairwise Rz := by
  unfold okL
  rw [Bool.and_eq_true, decide_eq_true_eq, docA_iff]
  simp
theorem okL_erase {A B : List An} {e : An} (h : okL (A ++ e :: B) = true) (h2 : 1 ≤ (A ++ B).length) : okL (A ++ B) = true := by
  rw [okL_iff] at h ⊢
  obtain ⟨⟨h3, h4⟩, h5, h6⟩ := h
  have hs : (A ++ B).Sublist (A ++ e :: B) := List.Sublist.append (List.Sublist.refl _) (List.sublist_cons_self _ _)
  refine ⟨⟨h2, ?_⟩, fun x hx => h5 x (hs.subset hx), h6.sublist hs⟩
  have := hs.length_le
  omega
theorem withA_zero {b : Bd} {a : An} (h : (withA b a).1 = 0) : (withA b a).2 = nxt b (srt (b.l ++ [a])) ∧ right (nxt b (srt (b.l ++ [a]))) = true := by
  unfold withA at h ⊢
  by_cases hc : clash b a = true
  · rw [if_pos hc] at h; cases h
  · rw [if_neg hc] at h ⊢
    unfold next at h ⊢
    by_cases hr : right (nxt b (srt (b.l ++ [a]))) = true
    · rw [if_pos hr]; exact ⟨rfl, hr⟩
    · rw [if_neg hr] at h; cases h
/-- What was gathered, in how many steps. -/
structure Gth (b : Bd) (s : List An) (S : ByteArray) (n : Nat) : Prop where
  perm : b.l.Perm s
  rise : b.l.Pairwise (fun a b => a.g ≤ b.g)
  ver : b.v = 1 + n
  sp : b.sp = S
  ok : 0 < n → right b = true
theorem Gth.step {b : Bd} {s : List An} {S : ByteArray} {n : Nat} {a : An} (h : Gth b s S n) (h0 : (withA b a).1 = 0) : Gth (withA b a).2 (s ++ [a]) S (n + 1) := by
  obtain ⟨e, hr⟩ := withA_zero h0
  rw [e]
  refine ⟨(srt_perm _).trans (h.perm.append_right [a]), srt_rise _, ?_, h.sp, fun _ => hr⟩
  show b.v + 1 = 1 + ((n + 1 : Nat) : Int)
  have := h.ver
  omega
theorem right_okL {b : Bd} (h : right b = true) : okL b.l = true ∧ Pt.label (strL b.sp) = true := by
  have h2 : (decide (1 ≤ b.v ∧ b.v ≤ 1099511627776) && (Pt.label (strL b.sp) && okL b.l)) = true := h
  rw [Bool.and_eq_true, Bool.and_eq_true] at h2
  exact ⟨h2.2.2, h2.2.1⟩
theorem Gth.same {x y : Bd} {s t : List An} {S : ByteArray} {n : Nat} (hx : Gth x s S n) (hy : Gth y t S n) (hn : 0 < n) (hp : s.Perm t) : x.v = y.v ∧ x.sp = y.sp ∧ x.l = y.l :=
  ⟨hx.ver.trans hy.ver.symm, hx.sp.trans hy.sp.symm, perm_rise ((hx.perm.trans hp).trans hy.perm.symm) (okL_rise (right_okL (hx.ok hn)).1) hy.rise⟩
theorem getD_app {A B : List An} {e : An} : (A ++ e :: B).getD A.length an0 = e := by simp [List.getD_eq_getElem?_getD]
/-- One goes, and comes again. -/
theorem Gth.back {x : Bd} {s : List An} {S : ByteArray} {n : Nat} {e : An} (hx : Gth x s S n) (hn : 0 < n) (hn8 : n ≤ 1000) (he : e ∈ s) (h2 : 2 ≤ x.l.length) :
    ∃ z, without x e.g = (0, z) ∧ OkB z ∧ withA z e = (0, ⟨x.v + 2, x.sp, x.l⟩) := by
  obtain ⟨hok, hlb⟩ := right_okL (hx.ok hn)
  obtain ⟨A, B, hAB⟩ := List.append_of_mem (hx.perm.mem_iff.2 he)
  have hok2 := hok
  rw [hAB] at hok2
  have hi := (okL_iff _).1 hok2
  have hpw := List.pairwise_append.1 hi.2.2
  have hlen : x.l.length = A.length + B.length + 1 := by rw [hAB]; simp; omega
  have hokE := okL_erase hok2 (by rw [List.length_append]; omega)
  have hfg : firstG e.g x.l = some A.length := by
    refine firstG_at (by omega) (fun i hiA => ?_) (by rw [hAB, getD_app])
    rw [hAB]
    have e1 : (A ++ e :: B).getD i an0 = A.getD i an0 := by simp [List.getD_eq_getElem?_getD, List.getElem?_append_left hiA]
    rw [e1]
    have hm : A.getD i an0 ∈ A := by rw [List.getD_eq_getElem?_getD, List.getElem?_eq_getElem hiA]; exact List.getElem_mem _
    have := (hpw.2.2 _ hm e (by simp)).1
    omega
  have htd : x.l.take A.length ++ x.l.drop (A.length + 1) = A ++ B := by rw [hAB]; simp
  have hv := hx.ver
  have hr1 : right (nxt x (A ++ B)) = true := by
    show (decide (1 ≤ x.v + 1 ∧ x.v + 1 ≤ 1099511627776) && (Pt.label (strL x.sp) && okL (A ++ B))) = true
    rw [hlb, hokE, decide_eq_true (by omega)]; rfl
  have hwo : without x e.g = (0, nxt x (A ++ B)) := by
    unfold without
    rw [hfg]
    show next x (x.l.take A.length ++ x.l.drop (A.length + 1)) = _
    rw [htd]
    unfold next
    rw [if_pos hr1]
  have hnc : ¬ clash (nxt x (A ++ B)) e = true := by
    unfold clash
    rw [List.any_eq_true]
    rintro ⟨y, hy, hq⟩
    rw [Bool.or_eq_true, decide_eq_true_eq, decide_eq_true_eq] at hq
    rcases List.mem_append.1 hy with hy | hy
    · have h := hpw.2.2 y hy e (by simp)
      rcases hq with hq | hq
      · have := h.1; omega
      · exact h.2 hq
    · have h := (List.pairwise_cons.1 hpw.2.1).1 y hy
      rcases hq with hq | hq
      · have := h.1; omega
      · exact h.2 hq.symm
  have hse : srt ((nxt x (A ++ B)).l ++ [e]) = x.l := by
    refine (perm_rise ?_ (okL_rise hok) (srt_rise _)).symm
    refine List.Perm.trans ?_ (srt_perm _).symm
    show x.l.Perm (A ++ B ++ [e])
    rw [hAB]
    exact List.perm_middle.trans (List.perm_append_comm (l₁ := [e]) (l₂ := A ++ B))
  have hr2 : right (nxt (nxt x (A ++ B)) x.l) = true := by
    show (decide (1 ≤ x.v + 1 + 1 ∧ x.v + 1 + 1 ≤ 1099511627776) && (Pt.label (strL x.sp) && okL x.l)) = true
    rw [hlb, hok, decide_eq_true (by omega)]; rfl
  refine ⟨nxt x (A ++ B), hwo, ?_, ?_⟩
  · have := without_ok (b := x) (g := e.g)
    have hk : ∀ y ∈ A ++ B, y.k.size ≤ 1000 := fun y hy => by
      exact okAn_parts' (((okL_iff _).1 hokE).2.1 y hy)
    exact ⟨by show (A ++ B).length ≤ 900; have := ((okL_iff _).1 hokE).1.2; omega, hk, label_sz hlb, by show -9223372036854775808 ≤ x.v + 1; omega, by show x.v + 1 ≤ 9223372036854775807; omega⟩
  · unfold withA
    rw [if_neg hnc]
    unfold next
    rw [hse, if_pos hr2]
    show (0, (⟨x.v + 1 + 1, x.sp, x.l⟩ : Bd)) = _
    rw [show x.v + 1 + 1 = x.v + 2 by omega]
theorem rot_at {l : List An} {i k : Nat} (hi : i < l.length) (hk : k < l.length) : (l.drop k ++ l.take k).getD i an0 = l.getD ((i + k) % l.length) an0 := by
  rw [List.getD_eq_getElem?_getD, List.getD_eq_getElem?_getD]
  congr 1
  rcases Nat.lt_or_ge (i + k) l.length with h | h
  · rw [Nat.mod_eq_of_lt h, List.getElem?_append_left (by rw [List.length_drop]; omega), List.getElem?_drop, Nat.add_comm]
  · rw [List.getElem?_append_right (by rw [List.length_drop]; omega), List.length_drop, Nat.mod_eq_sub_mod h, Nat.mod_eq_of_lt (by omega), List.getElem?_take, if_pos (by omega)]
    congr 1
    omega
theorem rot_perm (l : List An) (k : Nat) : (l.drop k ++ l.take k).Perm l := by
  have := List.perm_append_comm (l₁ := l.drop k) (l₂ := l.take k)
  rwa [List.take_append_drop] at this
end Bu
end Go.Proofs.YtihioekepflpiaaGreatDoor
namespace Go.Proofs.YtihioekepflpiaaGreatDoor
open Go.RowKit Bu
set_option linter.unusedVariables false
set_option linter.unusedSimpArgs false
theorem i_full : (Tryz.prog.info? 3).map (fun i => (i.zero, i.size, i.bytes)) = some (some (.int .i64 0), 1, 8) := by kernel_rfl
set_option maxRecDepth 100000 in
set_option maxHeartbeats 4000000 in
theorem bgens_any (v : Int) (sp : ByteArray) (a : Value) (l : List An) (w : World) (hA : Ans w a l) (hl : l.length ≤ 2000) :
    Calls Tryz.prog 18 #[.agg #[.int .i64 v, .string sp, a]] w fun e w' => ∃ p, e = .returned p ∧ Ints w' p (l.map (·.g)) ∧ Whole0 p ∧ w.grownBy w' none := by
  have hIf := i_full
  obtain ⟨w1, hw1⟩ : ∃ w1, w1 = w.alloc (.cells #[.int .i64 v, .string sp, a] 24) := ⟨_, rfl⟩
  have hg1 : w.grownBy w1 none := by rw [hw1]; exact World.grownBy_alloc _ _ _
  have b0 : w1.heap[w.heap.size]? = some (.cells #[.int .i64 v, .string sp, a] 24 (0, 0)) := by rw [hw1]; exact alloc_at _ _
  obtain ⟨a1, g1, s1, c1, rfl, ha1, _, hx1⟩ := hA.form
  have HX1 := Lib.hid (Ans.cells_at ha1 hx1)
  have HTk := Lib.hid (fun j (hj : j < l.length) => take_snoc hj)
  have HTa : Hid (l.take l.length = l) := Lib.hid (List.take_length)
  obtain ⟨N, hN⟩ : ∃ N, N = l.length := ⟨_, rfl⟩
  have HA1 : Hid (0 < N → a1 = some ⟨g1, s1, none⟩) := Lib.hid (fun h => (ha1 (by omega)).1)
  rw [← hN] at HX1 HTk HTa b0 hw1 hl ⊢
  have HO1 : Hid (w1.ownsRow w.heap.size 3 1 (.slice none 0 0) 0 (cellsI ((l.take 0).map (·.g)))) := Lib.hid (by rw [List.take_zero]; exact World.ownsRow_nil _ _ _ _)
  have HG1 := Lib.hid hg1
  have HW1 := Lib.hid hw1
  have d2 := cell_blk b0 2 rfl
  rw [hw1] at d2
  clear hA ha1 hx1 hN hg1 b0 hw1
  go_enter Tryz.func18, Tryz.ntmps18
  go_wp2
  rw [← HW1.out]
  go_loopw [9, 3] (fun i o wr => ∃ (j : Nat), j ≤ N ∧ i = .int .i64 (j : Int) ∧ w.grownBy wr none ∧ wr.ownsRow w.heap.size 3 1 o j (cellsI ((l.take j).map (·.g)))) (fun i _ _ => N - (intOf i).toNat)
  case atStart => exact ⟨0, Nat.zero_le _, rfl, HG1.out, HO1.out⟩
  case round =>
    obtain ⟨j, hj, rfl, hg, ho⟩ := hrel
    have HG := Lib.hid hg
    have HO := Lib.hid ho
    obtain ⟨oa, og, oc, rfl, -⟩ := own_formN ho
    clear hg ho d2
    by_cases hjN : j < N
    · obtain ⟨x0, x1, x2, x3⟩ := HX1.out wr HG.out j hjN
      obtain rfl := HA1.out (by omega)
      have HTj : Hid ((l.take (j + 1)).map (·.g) = (l.take j).map (·.g) ++ [(l.getD j an0).g]) := Lib.hid (by rw [HTk.out j hjN, List.map_append]; rfl)
      generalize (l.getD j an0).g = p1 at *
      generalize (l.getD j an0).k = p2 at *
      generalize (l.getD j an0).f = p3 at *
      generalize (l.getD j an0).t = p4 at *
      go_wp2_with (at_builtin; refine wpList_appI (by rfl) (.tmp 13) (.tmp 16) 55 (by rfl) w.heap.size 3 (.int .i64 0) 8 Tryz.underlying55 hIf rfl (by decide) _ _ _ (by rfl) ((HO.out.alloc _).alloc _) _ _ (by rfl) (Ints.lit (l := [p1]) (alloc2_new _ _ _)) (Whole0.some _ _ _) (by show j + 1 ≤ _; omega) (grown_alloc (grown_alloc HG.out _) _).size ?_; intro v5 w5 ho hg; have HO5 := Lib.hid ho; have HG5 : Hid (w.grownBy w5 none) := Lib.hid (grown_own (grown_alloc (grown_alloc HG.out _) _) ((HO.out.alloc _).alloc _) (Nat.le_refl _) hg); clear ho hg)
      have HF : Hid (w5.ownsRow w.heap.size 3 1 v5 (j + 1) (cellsI ((l.take (j + 1)).map (·.g)))) := Lib.hid (by
        have h := HO5.out
        rw [HTj.out]
        unfold cellsI at h ⊢
        rw [List.map_append]
        exact h)
      go_roundw
      case rel => exact ⟨j + 1, by omega, by go_num, HG5.out, HF.out⟩
      case measure => simp [intOf] <;> omega
    · obtain rfl : j = N := by omega
      rw [HTa.out] at HO
      go_wp2
      go_ret
      exact ⟨_, rfl, Ints.own HO.out, Whole0.own HO.out, HG.out⟩
end Go.Proofs.YtihioekepflpiaaGreatDoor
namespace Go.Proofs.YtihioekepflpiaaGreatDoor
open Go.RowKit
section
variable {P : Program} {a : Act} {o : Oper} {w : World}
theorem addint_val {t r : TypeId} {x y : Operand} {k : IntKind} {n m : Int} (ho : o.op = .binOp .add t x y r) (hx : a.eval x = .int k n) (hy : a.eval y = .int k m) : (execOp a.eval o).run P w = .ok (.value (.int k (k.wrap (n + m)))) w := by
  simp only [execOp, ho, hx, hy]
  simp [go_sem, eqGuard, Sem.run_pure, binOp]
theorem len_val {x : Operand} {t e : TypeId} {ad : Option Addr} {n c : Nat} (hu : P.underlying t = some (.slice e)) (ho : o.op = .call { callee := .builtin .len, args := #[x], argTypes := #[t] }) (hx : a.eval x = .slice ad n c) : (execOp a.eval o).run P w = .ok (.value (.int .i64 n)) w := by
  simp only [execOp, ho, resolve, List.map_toArray, List.map_cons, List.map_nil, hx]
  simp [go_sem, invoke, Builtin.len_, run_underlying hu, Result.andThen, Sem.run_bind, Sem.run_pure]
end
section
variable {a : Act} {us : Nat → Value} {D : List Nat} {d : Nat}
end
section
variable {P : Program} {ops : Array Oper} {md : Region.Mode} {C : World → Prop} {S : World → World → Prop} {F : Nat → Value → World → Prop} {a0 : Act} {D : List Nat} {j : Nat} {o : Oper}
end
end Go.Proofs.YtihioekepflpiaaGreatDoor
namespace Go.Proofs.YtihioekepflpiaaGreatDoor
open Go.RowKit
set_option linter.unusedVariables false
def isIz (l : List Int) (v : Value) (w : World) : Prop := Ints w v l
theorem stays_isIz (l : List Int) : Stays (isIz l) := fun v w w' hg h => Ints.grown h hg
theorem bzfield_val {P : Program} {a : Act} {o : Oper} {w : World} {t : TypeId} {x : Operand} {k : Nat} {p v : Value} (ho : o.op = .fieldAddr t x k) (hx : a.eval x = p) (h : (Instr.fieldAt t p k).run P w = .ok v w) : (execOp a.eval o).run P w = .ok (.value v) w := by
  simp [execOp, ho, hx, h, Result.andThen]
theorem bzField (m : Nat) (w : World) : (Instr.fieldAt 24 (.pointer (some ⟨m, 0, none⟩)) 2).run Tryz.prog w = .ok (.pointer (some ⟨m, 2, none⟩)) w := by simp [go_sem]
noncomputable def ba_region27C : Code := regionIn Tryz.f4.body 27
set_option linter.unusedVariables false
set_option maxRecDepth 100000 in
set_option maxHeartbeats 1000000 in
theorem ba_region27 (a : Act) (b8 b9 n : Nat) (DX DY : Array Value) (ua pa : Option Addr) (uc pc : Nat) (LI : List Int) (W w : World) (Q : Exit → Act → World → Prop) (hsz : a.tmps.size = 144)
    (h8 : a.eval (.tmp 8) = .pointer (some ⟨b8, 0, none⟩))
    (h9 : a.eval (.tmp 9) = .pointer (some ⟨b9, 0, none⟩))
    (h0 : a.eval (.tmp 0) = .slice ua n uc)
    (hS : ∀ w, W.grownBy w none → Calls Tryz.prog 16 #[.agg DX, .agg DY] w fun e w' => ∃ v, e = .returned v ∧ w.grownBy w' none ∧ isV (.bool true) v w')
    (hX : ∀ w, W.grownBy w none → Calls Tryz.prog 18 #[.agg DX] w fun e w' => ∃ v, e = .returned v ∧ w.grownBy w' none ∧ isIz LI v w')
    (hY : ∀ w, W.grownBy w none → Calls Tryz.prog 18 #[.agg DY] w fun e w' => ∃ v, e = .returned v ∧ w.grownBy w' none ∧ isIz LI v w')
    (hG : ∀ w u v, W.grownBy w none → isIz LI u w → isIz LI v w → Calls Tryz.prog 17 #[u, v] w fun e w' => ∃ x, e = .returned x ∧ w.grownBy w' none ∧ isV (.bool true) x w')
    (h8r : ∀ w, W.grownBy w none → w.heap[b8]? = some (.cells DX 24 (0, 0)))
    (h9r : ∀ w, W.grownBy w none → w.heap[b9]? = some (.cells DY 24 (0, 0)))
    (hIX : (Tryz.prog.info? 24).map (·.size) = some DX.size)
    (hIY : (Tryz.prog.info? 24).map (·.size) = some DY.size)
    (hL : ∀ w, W.grownBy w none → (Instr.loadAt 22 (.pointer (some ⟨b8, 2, none⟩))).run Tryz.prog w = .ok (.slice pa (n + 1) pc) w)
    (ha : IntKind.i64.wrap ((n : Int) + 1) = ((n + 1 : Nat) : Int))
    (hw : W.grownBy { w with drawn := w.drawn + 1 } none)
    (hQ : ∀ us w', W.grownBy w' none → Q .normal ((fill a [86, 87, 88, 89, 90, 91, 92, 93, 94, 95, 96, 97, 98, 99, 100, 101, 102, 103, 104, 105] us).put (some 106) (.bool false)) w') : ba_region27C.wp Tryz.prog Q a w := by
  have hst : StaysAll [isV (.agg DX), isV (.agg DY), isV (.bool true), isV (.bool false), isV (.bool false), isV (.agg DX), isIz LI, isV (.agg DY), isIz LI, isV (.bool true), isV (.bool false), isV (.bool false), isV (.bool false), isV (.pointer (some ⟨b8, 2, none⟩)), isV (.slice pa (n + 1) pc), isV (.int .i64 ((n + 1 : Nat) : Int)), isV (.slice ua n uc), isV (.int .i64 (n : Int)), isV (.int .i64 ((n + 1 : Nat) : Int)), isV (.bool false)] := ⟨stays_V _, stays_V _, stays_V _, stays_V _, stays_V _, stays_V _, stays_isIz _, stays_V _, stays_isIz _, stays_V _, stays_V _, stays_V _, stays_V _, stays_V _, stays_V _, stays_V _, stays_V _, stays_V _, stays_V _, stays_V _, trivial⟩
  conv => arg 2; whnf
  refine wp_region_flow 20 [86, 87, 88, 89, 90, 91, 92, 93, 94, 95, 96, 97, 98, 99, 100, 101, 102, 103, 104, 105] (fun w' => W.grownBy w' none) (fun w w' => w.grownBy w' none) (flF [isV (.agg DX), isV (.agg DY), isV (.bool true), isV (.bool false), isV (.bool false), isV (.agg DX), isIz LI, isV (.agg DY), isIz LI, isV (.bool true), isV (.bool false), isV (.bool false), isV (.bool false), isV (.pointer (some ⟨b8, 2, none⟩)), isV (.slice pa (n + 1) pc), isV (.int .i64 ((n + 1 : Nat) : Int)), isV (.slice ua n uc), isV (.int .i64 (n : Int)), isV (.int .i64 ((n + 1 : Nat) : Int)), isV (.bool false)]) (by kernel_rfl) (by kernel_rfl) (fun _ _ h k => grown_trans k h) (fun j x w w' hg h => flF_stays hst j x w w' hg h) hw ?_ ?_
  · refine ⟨?_, ?_, ?_, ?_, ?_, ?_, ?_, ?_, ?_, ?_, ?_, ?_, ?_, ?_, ?_, ?_, ?_, ?_, ?_, ?_, trivial⟩
    · exact flow_step (fun us w hC hd => wants_free rfl) (fun us w hC hd => ⟨_, w, load_val rfl ((fill_old (by rfl)).trans h8) (h8r w hC) Tryz.underlying24 rfl hIX, grown_refl _ _, rfl⟩)
    · exact flow_step (fun us w hC hd => wants_free rfl) (fun us w hC hd => ⟨_, w, load_val rfl ((fill_old (by rfl)).trans h9) (h9r w hC) Tryz.underlying24 rfl hIY, grown_refl _ _, rfl⟩)
    · refine flow_call 16 (fun us => #[us 86, us 87]) (fun us w hC hd => wants_free rfl) (fun us w => by rw [call_enter rfl (fun _ _ => by simp [go_sem]), List.map_toArray, List.map_cons, List.map_cons, List.map_nil, fill_tmp (by rfl) (by rw [hsz]; decide), fill_tmp (by rfl) (by rw [hsz]; decide)]) (fun us w hC' hd => ?_)
      rw [show us 86 = .agg DX from hd 0 (by decide)]
      rw [show us 87 = .agg DY from hd 1 (by decide)]
      exact hS w hC'
    · exact flow_step (fun us w hC hd => wants_free rfl) (fun us w hC hd => ⟨_, w, not_val rfl ((fill_tmp (by rfl) (by rw [hsz]; decide)).trans (hd 2 (by decide))), grown_refl _ _, rfl⟩)
    · exact flow_step (fun us w hC hd => wants_free rfl) (fun us w hC hd => ⟨_, w, move_val rfl ((fill_tmp (by rfl) (by rw [hsz]; decide)).trans (hd 3 (by decide))), grown_refl _ _, rfl⟩)
    · exact flow_step (fun us w hC hd => wants_on (d := 90) (b := false) rfl rfl (by rfl) (by rw [hsz]; decide) (hd 4 (by decide))) (fun us w hC hd => ⟨_, w, load_val rfl ((fill_old (by rfl)).trans h8) (h8r w hC) Tryz.underlying24 rfl hIX, grown_refl _ _, rfl⟩)
    · refine flow_call 18 (fun us => #[us 91]) (fun us w hC hd => wants_on (d := 90) (b := false) rfl rfl (by rfl) (by rw [hsz]; decide) (hd 4 (by decide))) (fun us w => by rw [call_enter rfl (fun _ _ => by simp [go_sem]), List.map_toArray, List.map_cons, List.map_nil, fill_tmp (by rfl) (by rw [hsz]; decide)]) (fun us w hC' hd => ?_)
      rw [show us 91 = .agg DX from hd 5 (by decide)]
      exact hX w hC'
    · exact flow_step (fun us w hC hd => wants_on (d := 90) (b := false) rfl rfl (by rfl) (by rw [hsz]; decide) (hd 4 (by decide))) (fun us w hC hd => ⟨_, w, load_val rfl ((fill_old (by rfl)).trans h9) (h9r w hC) Tryz.underlying24 rfl hIY, grown_refl _ _, rfl⟩)
    · refine flow_call 18 (fun us => #[us 93]) (fun us w hC hd => wants_on (d := 90) (b := false) rfl rfl (by rfl) (by rw [hsz]; decide) (hd 4 (by decide))) (fun us w => by rw [call_enter rfl (fun _ _ => by simp [go_sem]), List.map_toArray, List.map_cons, List.map_nil, fill_tmp (by rfl) (by rw [hsz]; decide)]) (fun us w hC' hd => ?_)
      rw [show us 93 = .agg DY from hd 7 (by decide)]
      exact hY w hC'
    · refine flow_call 17 (fun us => #[us 92, us 94]) (fun us w hC hd => wants_on (d := 90) (b := false) rfl rfl (by rfl) (by rw [hsz]; decide) (hd 4 (by decide))) (fun us w => by rw [call_enter rfl (fun _ _ => by simp [go_sem]), List.map_toArray, List.map_cons, List.map_cons, List.map_nil, fill_tmp (by rfl) (by rw [hsz]; decide), fill_tmp (by rfl) (by rw [hsz]; decide)]) (fun us w hC' hd => ?_)
      exact hG w _ _ hC' (hd 6 (by decide)) (hd 8 (by decide))
    · exact flow_step (fun us w hC hd => wants_on (d := 90) (b := false) rfl rfl (by rfl) (by rw [hsz]; decide) (hd 4 (by decide))) (fun us w hC hd => ⟨_, w, not_val rfl ((fill_tmp (by rfl) (by rw [hsz]; decide)).trans (hd 9 (by decide))), grown_refl _ _, rfl⟩)
    · exact flow_step (fun us w hC hd => wants_free rfl) (fun us w hC hd => ⟨_, w, pick_false rfl ((fill_tmp (by rfl) (by rw [hsz]; decide)).trans (hd 4 (by decide))) ((fill_tmp (by rfl) (by rw [hsz]; decide)).trans (hd 10 (by decide))), grown_refl _ _, rfl⟩)
    · exact flow_step (fun us w hC hd => wants_free rfl) (fun us w hC hd => ⟨_, w, move_val rfl ((fill_tmp (by rfl) (by rw [hsz]; decide)).trans (hd 11 (by decide))), grown_refl _ _, rfl⟩)
    · exact flow_step (fun us w hC hd => wants_on (d := 98) (b := false) rfl rfl (by rfl) (by rw [hsz]; decide) (hd 12 (by decide))) (fun us w hC hd => ⟨_, w, bzfield_val rfl ((fill_old (by rfl)).trans h8) (bzField b8 w), grown_refl _ _, rfl⟩)
    · exact flow_step (fun us w hC hd => wants_on (d := 98) (b := false) rfl rfl (by rfl) (by rw [hsz]; decide) (hd 12 (by decide))) (fun us w hC hd => ⟨_, w, loadc_val rfl ((fill_tmp (by rfl) (by rw [hsz]; decide)).trans (hd 13 (by decide))) (hL w hC), grown_refl _ _, rfl⟩)
    · exact flow_step (fun us w hC hd => wants_on (d := 98) (b := false) rfl rfl (by rfl) (by rw [hsz]; decide) (hd 12 (by decide))) (fun us w hC hd => ⟨_, w, len_val Tryz.underlying22 rfl ((fill_tmp (by rfl) (by rw [hsz]; decide)).trans (hd 14 (by decide))), grown_refl _ _, rfl⟩)
    · exact flow_step (fun us w hC hd => wants_on (d := 98) (b := false) rfl rfl (by rfl) (by rw [hsz]; decide) (hd 12 (by decide))) (fun us w hC hd => ⟨_, w, move_val rfl ((fill_old (by rfl)).trans h0), grown_refl _ _, rfl⟩)
    · exact flow_step (fun us w hC hd => wants_on (d := 98) (b := false) rfl rfl (by rfl) (by rw [hsz]; decide) (hd 12 (by decide))) (fun us w hC hd => ⟨_, w, len_val Tryz.underlying22 rfl ((fill_tmp (by rfl) (by rw [hsz]; decide)).trans (hd 16 (by decide))), grown_refl _ _, rfl⟩)
    · exact flow_step (fun us w hC hd => wants_on (d := 98) (b := false) rfl rfl (by rfl) (by rw [hsz]; decide) (hd 12 (by decide))) (fun us w hC hd => ⟨_, w, (addint_val rfl ((fill_tmp (by rfl) (by rw [hsz]; decide)).trans (hd 17 (by decide))) rfl).trans (by rw [ha]), grown_refl _ _, rfl⟩)
    · exact flow_step (fun us w hC hd => wants_on (d := 98) (b := false) rfl rfl (by rfl) (by rw [hsz]; decide) (hd 12 (by decide))) (fun us w hC hd => ⟨_, w, neqint_val rfl ((fill_tmp (by rfl) (by rw [hsz]; decide)).trans (hd 15 (by decide))) ((fill_tmp (by rfl) (by rw [hsz]; decide)).trans (hd 18 (by decide))), grown_refl _ _, rfl⟩)
  · intro us w' hC' hd
    exact wpList_last rfl (pick_false rfl ((fill_tmp (by rfl) (by rw [hsz]; decide)).trans (hd 12 (by decide))) ((fill_tmp (by rfl) (by rw [hsz]; decide)).trans (hd 19 (by decide)))) (hQ us w' hC')
end Go.Proofs.YtihioekepflpiaaGreatDoor
