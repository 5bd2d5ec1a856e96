import Derived.Test.YtihioekepflpiaaGreatDoorZb00
import Derived.Test.YtihioekepflpiaaGreatDoorZb01
import Derived.Test.YtihioekepflpiaaGreatDoorZb03
import Derived.Test.YtihioekepflpiaaGreatDoorZb05
import Derived.Test.YtihioekepflpiaaGreatDoorZb06
import Derived.Test.YtihioekepflpiaaGreatDoorZb08
import Derived.Test.YtihioekepflpiaaGreatDoorZb09
import Derived.Test.YtihioekepflpiaaGreatDoorZb10
import Derived.Test.YtihioekepflpiaaGreatDoorZb11
import Derived.Test.YtihioekepflpiaaGreatDoorZb12
import Derived.Test.YtihioekepflpiaaGreatDoorZb13
import Derived.Test.YtihioekepflpiaaGreatDoorZb15
import Derived.Test.YtihioekepflpiaaGreatDoorZb16
import Derived.Test.YtihioekepflpiaaGreatDoorZb17
import Derived.Test.YtihioekepflpiaaGreatDoorZb19
import Derived.Test.YtihioekepflpiaaGreatDoorZb20
import Derived.Test.YtihioekepflpiaaGreatDoorZb21
import Derived.Test.YtihioekepflpiaaGreatDoorZb22
import Derived.Test.YtihioekepflpiaaGreatDoorZb23
import Derived.Test.YtihioekepflpiaaGreatDoorZb24
import Derived.Test.YtihioekepflpiaaGreatDoorZb32
import Derived.Test.YtihioekepflpiaaGreatDoorZb33
import Derived.Test.YtihioekepflpiaaGreatDoorZb34
import Derived.Test.YtihioekepflpiaaGreatDoorZb44
import Derived.Test.YtihioekepflpiaaGreatDoorZb45
import Derived.Test.YtihioekepflpiaaGreatDoorZc01
namespace Go.Proofs.YtihioekepflpiaaGreatDoor
open Go.RowKit Bu
set_option linter.unusedVariables false
set_option linter.unusedSimpArgs false
theorem u64n13 {n : Nat} (h : n ≤ 1000) : IntKind.u64.wrap (n : Int) = (n : Int) := by
  show (n : Int) % 18446744073709551616 = n
  omega
theorem idx13 (key : Int) {n : Nat} (h : n ≤ 1000) (h0 : 0 < n) : wrap64 ((IntKind.u64.wrap key).tmod (n : Int)) = (((key % 18446744073709551616).toNat % n : Nat) : Int) := by
  have e : IntKind.u64.wrap key = key % 18446744073709551616 := rfl
  have h1 : 0 ≤ key % 18446744073709551616 := Int.emod_nonneg _ (by decide)
  obtain ⟨k, hk⟩ : ∃ k : Nat, key % 18446744073709551616 = k := ⟨_, (Int.toNat_of_nonneg h1).symm⟩
  rw [e, hk]
  have h2 : ((k : Int).tmod (n : Int)) = ((k % n : Nat) : Int) := by
    rw [Int.tmod_eq_emod_of_nonneg (by omega)]; rfl
  have h3 : k % n < n := Nat.mod_lt _ h0
  rw [h2, Int.toNat_natCast]
  unfold wrap64
  omega
@[reducible] def fK : ByteArray := ⟨#[102, 102, 102, 102, 102, 102, 102, 102, 102, 102, 102, 102, 102, 102, 102, 102, 102, 102, 102, 102, 102, 102, 102, 102, 102, 102, 102, 102, 102, 102, 102, 102]⟩
@[reducible] def fA : An := ⟨1048576, fK, 0, 9⟩
@[reducible] def fS : ByteArray := ⟨#[97]⟩
theorem Ans.set1 {w : World} {b : Nat} {x y z x' : Value} {t : TypeId} {p : Value} {l : List An} (h : Ans w p l) (hb : w.heap[b]? = some (.cells #[x, y, z] t (0, 0))) : Ans (w.setCell ⟨b, 0, none⟩ x') p l := by
  obtain ⟨⟨h1, a, g, o, c, rfl, h2, h3⟩, h0⟩ := h
  refine ⟨⟨h1, a, g, o, c, rfl, fun hp => ⟨(h2 hp).1, by simpa [World.setCell] using (h2 hp).2⟩, fun j v hj => ?_⟩, h0⟩
  have hp : 0 < l.length := by
    rcases Nat.eq_zero_or_pos l.length with h9 | h9
    · rw [List.length_eq_zero_iff.1 h9] at hj; cases hj
    · exact h9
  have hne : g ≠ b := fun e => by
    subst e
    have h5 := h3 _ _ (cellsA_at l 0 hp).2.2.2
    rw [World.cell?] at h5
    simp [hb] at h5
  rw [World.cell?_of_block (w := w) (by rw [Below.heap_setCell _ _ _ _ hne])]
  exact h3 j v hj
def gb0 : Bd := ⟨1, fS, [fA]⟩
theorem gb0_ok : OkB gb0 := ⟨by decide, fun x hx => by rw [List.mem_singleton.1 hx]; decide, by decide, by decide, by decide⟩
theorem gb0_gth : Gth gb0 [fA] fS 0 := ⟨List.Perm.refl _, List.pairwise_singleton _ _, rfl, rfl, fun h => absurd h (Nat.lt_irrefl 0)⟩
/-- What loop 2 holds. -/
structure GtS (w wr : World) (b8 b9 : Nat) (X Y : Bd) (p q : Value) (s t : List An) (kx ky : Nat) : Prop where
  gr : w.grownBy wr none
  ox : OkB X
  oy : OkB Y
  h8 : wr.heap[b8]? = some (.cells #[.int .i64 X.v, .string X.sp, p] 24 (0, 0))
  a8 : Ans wr p X.l
  h9 : wr.heap[b9]? = some (.cells #[.int .i64 Y.v, .string Y.sp, q] 24 (0, 0))
  a9 : Ans wr q Y.l
  gx : Gth X s fS kx
  gy : Gth Y t fS ky
theorem GtS.grown {w wr W : World} {b8 b9 : Nat} {X Y : Bd} {p q : Value} {s t : List An} {kx ky : Nat} (h : GtS w wr b8 b9 X Y p q s t kx ky) (hg : wr.grownBy W none) : GtS w W b8 b9 X Y p q s t kx ky :=
  ⟨grown_trans h.gr hg, h.ox, h.oy, hold_b3 h.h8 hg, h.a8.grown hg, hold_b3 h.h9 hg, h.a9.grown hg, h.gx, h.gy⟩
set_option maxRecDepth 100000 in
set_option maxHeartbeats 40000000 in
theorem bany_any (A : Nat → Addr) (u : Value) (l : List An) (t : Int) (w : World) (hA : Ans w u l) (hE : AllErrs w A) (ht1 : -9223372036854775808 ≤ t) (ht2 : t ≤ 9223372036854775807)
    (hAl : ∀ W, w.grownBy W none → Calls Tryz.prog 5 #[] W fun e w' => e = .returned (.bool true) ∧ W.grownBy w' none) :
    Calls Tryz.prog 4 #[u, .int .i64 t] w fun e w' => e = .returned (.bool true) ∧ w.grownBy w' none := by
  have hI := bd_info
  have hIa := an_info
  have HAl := Lib.hid (hAl w (grown_refl _ _))
  have HPW := Lib.hid (fun b p x W (ok : OkB b) (hp : Ans W p b.l) (hx : x.k.size ≤ 1000) (hW : w.grownBy W none) => bwith_any A b.v b.sp p b.l x W hp ok.len ok.keys hx ok.sp (hE.grown hW) ok.lo ok.hi)
  have HPO := Lib.hid (fun b p g W (ok : OkB b) (hp : Ans W p b.l) (hW : w.grownBy W none) => bwithout_any A b.v b.sp p b.l g W hp ok.len ok.keys ok.sp (hE.grown hW) ok.lo ok.hi)
  obtain ⟨ua, ug, uo, uc, rfl, hu1, _, hu2⟩ := hA.form
  have HX1 := Lib.hid (Ans.cells_at hu1 hu2)
  obtain ⟨n, hn⟩ : ∃ n, n = l.length := ⟨_, rfl⟩
  have HA1 : Hid (0 < n → ua = some ⟨ug, uo, none⟩) := Lib.hid (fun h => (hu1 (by omega)).1)
  have HLn : Hid (n = l.length) := Lib.hid hn
  rw [← hn] at HX1 ⊢
  clear hA hE hAl hu1 hu2 hn
  by_cases h8 : 8 < n
  · have h8i : (8 : Int) < (n : Int) := by omega
    go_enter Tryz.func4, Tryz.ntmps4
    go_wp2_with (go_at_call 5; refine HAl.out.mono ?_; rintro e w2 ⟨rfl, hg2⟩; have HG2 := Lib.hid hg2; clear hg2)
    go_ret
    exact ⟨rfl, HG2.out⟩
  have h8i : ¬ (8 : Int) < (n : Int) := by omega
  by_cases h2 : n < 2
  · have h2i : (n : Int) < 2 := by omega
    go_enter Tryz.func4, Tryz.ntmps4
    go_wp2_with (go_at_call 5; refine HAl.out.mono ?_; rintro e w2 ⟨rfl, hg2⟩; have HG2 := Lib.hid hg2; clear hg2)
    go_ret
    exact ⟨rfl, HG2.out⟩
  have h2i : ¬ (n : Int) < 2 := by omega
  have hn0 : ¬ (n : Int) = 0 := by omega
  have hun := u64n13 (n := n) (by omega)
  have hix := idx13 t (n := n) (by omega) (by omega)
  obtain ⟨K, hK⟩ : ∃ K : Nat, K = (t % 18446744073709551616).toNat % n := ⟨_, rfl⟩
  have hKn : K < n := by rw [hK]; exact Nat.mod_lt _ (by omega)
  rw [← hK] at hix
  obtain rfl := HA1.out (by omega)
  have HU := Lib.hid hun
  have HIx := Lib.hid hix
  have HKn := Lib.hid hKn
  clear hK hKn HA1
  go_enter Tryz.func4, Tryz.ntmps4
  go_wp2_with (go_at_call 5; refine HAl.out.mono ?_; rintro e w2 ⟨rfl, hg2⟩; have HG2 := Lib.hid hg2; clear hg2)
  go_loopw [30] (fun i wr => ∃ j : Nat, j ≤ n ∧ i = .int .i64 (j : Int) ∧ w.grownBy wr none ∧ ∀ i, i < j → (l.getD i an0).k.size ≤ 100) (fun i _ => n - (intOf i).toNat)
  case atStart => exact ⟨0, Nat.zero_le _, rfl, HG2.out, fun i hi => absurd hi (Nat.not_lt_zero _)⟩
  case round =>
    obtain ⟨j, hj, rfl, hg, h0⟩ := hrel
    have HG := Lib.hid hg
    have H0 := Lib.hid h0
    clear hg h0
    by_cases hjn : j < n
    · obtain ⟨x0, x1, x2, x3⟩ := HX1.out wr HG.out j hjn
      have HS : Hid ((l.getD j an0).k.size ≤ 100 → ∀ i, i < j + 1 → (l.getD i an0).k.size ≤ 100) := Lib.hid (fun h i hi => by
        rcases Nat.lt_or_ge i j with h1 | h1
        · exact H0.out i h1
        · obtain rfl : i = j := by omega
          exact h)
      generalize (l.getD j an0).g = p1 at *
      generalize (l.getD j an0).k = p2 at *
      generalize (l.getD j an0).f = p3 at *
      generalize (l.getD j an0).t = p4 at *
      have HGn := Lib.hid (grown_alloc HG.out (.cells #[.int .i64 p1, .string p2, .int .i64 p3, .int .i64 p4] 33))
      by_cases hp : 100 < p2.size
      · have hp2 : (100 : Int) < (p2.size : Int) := by omega
        go_wp2
        go_ret
        exact ⟨rfl, HGn.out⟩
      · have hp2 : ¬ (100 : Int) < (p2.size : Int) := by omega
        have HN2 := Lib.hid (HS.out (by omega))
        go_wp2
        go_roundw
        case rel => exact ⟨j + 1, by omega, by go_num, HGn.out, HN2.out⟩
        case measure => simp [intOf] <;> omega
    · obtain rfl : j = n := by omega
      go_wp2
      rw [hix]
      obtain ⟨w5, hw5⟩ : ∃ w5, w5 = ((((wr.alloc (.cells #[.int .i64 1048576, .string fK, .int .i64 0, .int .i64 9] 33)).alloc (.cells #[.int .i64 1048576, .string fK, .int .i64 0, .int .i64 9] 33)).alloc (.cells #[.int .i64 1, .string fS, .slice (some ⟨wr.heap.size + 1, 0, none⟩) 1 1] 24)).alloc (.cells #[.int .i64 1, .string fS, .slice (some ⟨wr.heap.size + 1, 0, none⟩) 1 1] 24)) := ⟨_, rfl⟩
      have HT5 : Hid (GtS w w5 (wr.heap.size + 1 + 1) (wr.heap.size + 1 + 1 + 1) gb0 gb0 (.slice (some ⟨wr.heap.size + 1, 0, none⟩) 1 1) (.slice (some ⟨wr.heap.size + 1, 0, none⟩) 1 1) (fA :: l.take 0) (fA :: (l.drop K ++ l.take K).take 0) 0 0) := Lib.hid (by
        have hg5 : wr.grownBy w5 none := by rw [hw5]; exact grown_alloc (grown_alloc (grown_alloc (World.grownBy_alloc _ _ _) _) _) _
        have ha : Ans w5 (.slice (some ⟨wr.heap.size + 1, 0, none⟩) 1 1) [fA] := by rw [hw5]; exact Ans.lit (x := fA) (alloc_keep (alloc_keep (alloc2_new _ _ _)))
        have k1 : w5.heap[wr.heap.size + 1 + 1]? = some (.cells #[.int .i64 gb0.v, .string gb0.sp, (.slice (some ⟨wr.heap.size + 1, 0, none⟩) 1 1)] 24 (0, 0)) := by
          rw [hw5]; have := alloc2_new (wr.alloc (.cells #[.int .i64 1048576, .string fK, .int .i64 0, .int .i64 9] 33)) (.cells #[.int .i64 1048576, .string fK, .int .i64 0, .int .i64 9] 33) (.cells #[.int .i64 1, .string fS, .slice (some ⟨wr.heap.size + 1, 0, none⟩) 1 1] 24); rw [alloc_size] at this; exact alloc_keep this
        have k2 : w5.heap[wr.heap.size + 1 + 1 + 1]? = some (.cells #[.int .i64 gb0.v, .string gb0.sp, (.slice (some ⟨wr.heap.size + 1, 0, none⟩) 1 1)] 24 (0, 0)) := by
          rw [hw5]; have := alloc2_new ((wr.alloc (.cells #[.int .i64 1048576, .string fK, .int .i64 0, .int .i64 9] 33)).alloc (.cells #[.int .i64 1048576, .string fK, .int .i64 0, .int .i64 9] 33)) (.cells #[.int .i64 1, .string fS, .slice (some ⟨wr.heap.size + 1, 0, none⟩) 1 1] 24) (.cells #[.int .i64 1, .string fS, .slice (some ⟨wr.heap.size + 1, 0, none⟩) 1 1] 24); rw [alloc_size, alloc_size] at this; exact this
        exact ⟨grown_trans HG.out hg5, gb0_ok, gb0_ok, k1, ha, k2, ha, by rw [List.take_zero]; exact gb0_gth, by rw [List.take_zero]; exact gb0_gth⟩)
      rw [← hw5]
      have HNe : Hid (wr.heap.size + 1 + 1 ≠ wr.heap.size + 1 + 1 + 1) := Lib.hid (by omega)
      have HLe : Hid (w.heap.size ≤ wr.heap.size) := Lib.hid HG.out.size
      have HB8 : Hid (w.heap.size ≤ wr.heap.size + 1 + 1) := Lib.hid (by have := HLe.out; omega)
      have HB9 : Hid (w.heap.size ≤ wr.heap.size + 1 + 1 + 1) := Lib.hid (by have := HLe.out; omega)
      clear hw5
      generalize wr.heap.size + 1 + 1 + 1 = b9 at *
      generalize wr.heap.size + 1 + 1 = b8 at *
      go_loopw [53] (fun i wr => ∃ (k : Nat) (X Y : Bd) (p q : Value), k ≤ j ∧ i = .int .i64 (k : Int) ∧ GtS w wr b8 b9 X Y p q (fA :: l.take k) (fA :: (l.drop K ++ l.take K).take k) k k) (fun i _ => j - (intOf i).toNat)
      case atStart => exact ⟨0, _, _, _, _, Nat.zero_le _, rfl, HT5.out⟩
      case round =>
        obtain ⟨k, X, Y, p, q, hk, rfl, ht⟩ := hrel
        have HT := Lib.hid ht
        obtain ⟨pa, _, _, pc, rfl, -, -, -⟩ := ht.a8.form
        obtain ⟨qa, _, _, qc, rfl, -, -, -⟩ := ht.a9.form
        clear ht
        by_cases hkj : k < j
        · obtain ⟨m, hm⟩ : ∃ m, m = (k + K) % j := ⟨_, rfl⟩
          have hmj : m < j := by rw [hm]; exact Nat.mod_lt _ (by omega)
          have HEk := Lib.hid (H0.out k hkj)
          have HEm := Lib.hid (H0.out m hmj)
          have HSx : Hid (fA :: l.take (k + 1) = (fA :: l.take k) ++ [l.getD k an0]) := Lib.hid (by rw [take_snoc (by rw [← HLn.out]; exact hkj)]; rfl)
          have HSy : Hid (fA :: (l.drop K ++ l.take K).take (k + 1) = (fA :: (l.drop K ++ l.take K).take k) ++ [l.getD m an0]) := Lib.hid (by rw [take_snoc (by rw [(rot_perm l K).length_eq, ← HLn.out]; exact hkj), rot_at (by rw [← HLn.out]; exact hkj) (by rw [← HLn.out]; exact HKn.out), ← HLn.out, ← hm]; rfl)
          have hrm : ((k : Int) + (K : Int)).tmod (j : Int) = (m : Int) := by rw [Int.tmod_eq_emod_of_nonneg (by omega), hm]; rfl
          have hrw : IntKind.i64.wrap ((k : Int) + (K : Int)) = (k : Int) + (K : Int) := by have := HKn.out; rw [IntKind.wrap_i64]; omega
          have HRm := Lib.hid hrm; have HRw := Lib.hid hrw
          have HMj := Lib.hid hmj
          clear hm hrm hrw hmj hun hix
          have HXk : Hid (∀ W, w.grownBy W none → W.cell? ⟨ug, uo + k * 4, none⟩ = some (.int .i64 (l.getD k an0).g) ∧ W.cell? ⟨ug, uo + k * 4 + 1, none⟩ = some (.string (l.getD k an0).k) ∧ W.cell? ⟨ug, uo + k * 4 + 2, none⟩ = some (.int .i64 (l.getD k an0).f) ∧ W.cell? ⟨ug, uo + k * 4 + 3, none⟩ = some (.int .i64 (l.getD k an0).t)) := Lib.hid (fun W hW => HX1.out W hW k hkj)
          have HXm : Hid (∀ W, w.grownBy W none → W.cell? ⟨ug, uo + m * 4, none⟩ = some (.int .i64 (l.getD m an0).g) ∧ W.cell? ⟨ug, uo + m * 4 + 1, none⟩ = some (.string (l.getD m an0).k) ∧ W.cell? ⟨ug, uo + m * 4 + 2, none⟩ = some (.int .i64 (l.getD m an0).f) ∧ W.cell? ⟨ug, uo + m * 4 + 3, none⟩ = some (.int .i64 (l.getD m an0).t)) := Lib.hid (fun W hW => HX1.out W hW m HMj.out)
          generalize (l.getD k an0) = e1 at *
          generalize (l.getD m an0) = e2 at *
          obtain ⟨xg, xk, xf, xt⟩ := e1
          obtain ⟨zg, zk, zf, zt⟩ := e2
          have HXk2 : Hid (∀ W, w.grownBy W none → W.cell? ⟨ug, uo + k * 4, none⟩ = some (.int .i64 xg) ∧ W.cell? ⟨ug, uo + k * 4 + 1, none⟩ = some (.string xk) ∧ W.cell? ⟨ug, uo + k * 4 + 2, none⟩ = some (.int .i64 xf) ∧ W.cell? ⟨ug, uo + k * 4 + 3, none⟩ = some (.int .i64 xt)) := HXk
          have HXm2 : Hid (∀ W, w.grownBy W none → W.cell? ⟨ug, uo + m * 4, none⟩ = some (.int .i64 zg) ∧ W.cell? ⟨ug, uo + m * 4 + 1, none⟩ = some (.string zk) ∧ W.cell? ⟨ug, uo + m * 4 + 2, none⟩ = some (.int .i64 zf) ∧ W.cell? ⟨ug, uo + m * 4 + 3, none⟩ = some (.int .i64 zt)) := HXm
          clear HXk HXm
          obtain ⟨R0, hR⟩ : ∃ R, R = withA X ⟨xg, xk, xf, xt⟩ := ⟨_, rfl⟩
          have HP0 : Hid (∀ p W, Ans W p X.l → w.grownBy W none → Calls Tryz.prog 8 #[.agg #[.int .i64 X.v, .string X.sp, p], .agg #[.int .i64 xg, .string xk, .int .i64 xf, .int .i64 xt]] W (BdP A R0 W)) := Lib.hid (fun p W hp hW => by rw [hR]; exact HPW.out X p ⟨xg, xk, xf, xt⟩ W HT.out.ox hp (by have : xk.size ≤ 100 := HEk.out; show xk.size ≤ 1000; omega) hW)
          have HRR0 := Lib.hid hR
          clear hR
          go_wp2
          have HSa : Hid (∀ W, wr.grownBy W none → W.cell? ⟨b8, 0, none⟩ = some (.int .i64 X.v) ∧ W.cell? ⟨b8, 1, none⟩ = some (.string X.sp) ∧ W.cell? ⟨b8, 2, none⟩ = some (.slice pa X.l.length pc) ∧ W.cell? ⟨ug, uo + k * 4, none⟩ = some (.int .i64 xg) ∧ W.cell? ⟨ug, uo + k * 4 + 1, none⟩ = some (.string xk) ∧ W.cell? ⟨ug, uo + k * 4 + 2, none⟩ = some (.int .i64 xf) ∧ W.cell? ⟨ug, uo + k * 4 + 3, none⟩ = some (.int .i64 xt)) := Lib.hid (fun W hW => by
            have k0 := hold_b3 HT.out.h8 hW
            obtain ⟨m0, m1, m2, m3⟩ := HXk2.out W (grown_trans HT.out.gr hW)
            exact ⟨cell_blk k0 0 rfl, cell_blk k0 1 rfl, cell_blk k0 2 rfl, m0, m1, m2, m3⟩)
          go_region_held3 (fun w' => w'.cell? ⟨b8, 0, none⟩ = some (.int .i64 X.v) ∧ w'.cell? ⟨b8, 1, none⟩ = some (.string X.sp) ∧ w'.cell? ⟨b8, 2, none⟩ = some (.slice pa X.l.length pc) ∧ w'.cell? ⟨ug, uo + k * 4, none⟩ = some (.int .i64 xg) ∧ w'.cell? ⟨ug, uo + k * 4 + 1, none⟩ = some (.string xk) ∧ w'.cell? ⟨ug, uo + k * 4 + 2, none⟩ = some (.int .i64 xf) ∧ w'.cell? ⟨ug, uo + k * 4 + 3, none⟩ = some (.int .i64 xt))
                (first
                        | with_reducible exact HSa.out _ (grown_drewN (grown_refl _ _) 1)
                        | with_reducible exact HSa.out _ (grown_alloc (grown_drewN (grown_refl _ _) 1) _)
                        | with_reducible exact HSa.out _ (grown_drewN (grown_alloc (grown_refl _ _) _) 1)
                        | with_reducible exact HSa.out _ (K6.out)
                        | with_reducible exact HSa.out _ (grown_alloc K6.out _)
                        | with_reducible exact HSa.out _ (grown_set (grown_set (grown_set (grown_alloc K6.out _) (.inl K6.out.size) _) (.inl K6.out.size) _) (.inl K6.out.size) _)
                        | with_reducible exact HSa.out _ (grown_set (grown_set (grown_set K6.out (.inl (Nat.le_refl _)) _) (.inl (Nat.le_refl _)) _) (.inl (Nat.le_refl _)) _))
                (first
        | (go_at_call 8; refine (HP0.out _ _ (HT.out.a8.grown (by first | exact grown_drewN (grown_refl _ _) 1 | exact grown_alloc (grown_drewN (grown_refl _ _) 1) _ | exact grown_drewN (grown_alloc (grown_refl _ _) _) 1)) (grown_trans HT.out.gr (by first | exact grown_drewN (grown_refl _ _) 1 | exact grown_alloc (grown_drewN (grown_refl _ _) 1) _ | exact grown_drewN (grown_alloc (grown_refl _ _) _) 1))).mono ?_; rintro e w6 ⟨p6, rfl, ha, hf, hg⟩; obtain ⟨a6, _, _, c6, rfl, -, -, -⟩ := ha.form; have A6 := Lib.hid ha; have G6 := Lib.hid hg; have K6 : Hid (wr.grownBy w6 none) := Lib.hid (grown_trans (by first | exact grown_drewN (grown_refl _ _) 1 | exact grown_alloc (grown_drewN (grown_refl _ _) 1) _ | exact grown_drewN (grown_alloc (grown_refl _ _) _) 1) hg); have HZ6 : Hid (w6.heap[wr.heap.size]? = some (.cells #[.int .i64 0, .string ⟨#[]⟩, .slice none 0 0] 24 (0, 0))) := Lib.hid (hold_b3 (alloc_at _ _) (by first | exact hg | exact grown_of_drewN (n := 1) hg)); have y0 := free_blk HZ6.out 0; have y1 := free_blk HZ6.out 1; have y2 := free_blk HZ6.out 2; have z0 := cell_blk HZ6.out 0 rfl; have z1 := cell_blk HZ6.out 1 rfl; have z2 := cell_blk HZ6.out 2 rfl; clear ha hf hg)
        | (go_at_call 8; refine (HP0.out _ _ (HT.out.a8.grown (by first | exact grown_drewN (grown_refl _ _) 1 | exact grown_alloc (grown_drewN (grown_refl _ _) 1) _ | exact grown_drewN (grown_alloc (grown_refl _ _) _) 1)) (grown_trans HT.out.gr (by first | exact grown_drewN (grown_refl _ _) 1 | exact grown_alloc (grown_drewN (grown_refl _ _) 1) _ | exact grown_drewN (grown_alloc (grown_refl _ _) _) 1))).mono ?_; rintro e w6 ⟨p6, rfl, ha, hf, hg⟩; obtain ⟨a6, _, _, c6, rfl, -, -, -⟩ := ha.form; have A6 := Lib.hid ha; have G6 := Lib.hid hg; have K6 : Hid (wr.grownBy w6 none) := Lib.hid (grown_trans (by first | exact grown_drewN (grown_refl _ _) 1 | exact grown_alloc (grown_drewN (grown_refl _ _) 1) _ | exact grown_drewN (grown_alloc (grown_refl _ _) _) 1) hg); clear ha hf hg))
          all_goals
            first
              | (obtain ⟨w7, hw⟩ : ∃ W, W = w6.alloc (.cells #[.int .i64 R0.2.v, .string R0.2.sp, .slice a6 R0.2.l.length c6] 24) := ⟨_, rfl⟩; have Nw7 : Hid (w7.heap[w6.heap.size]? = some (.cells #[.int .i64 R0.2.v, .string R0.2.sp, .slice a6 R0.2.l.length c6] 24 (0, 0))) := Lib.hid (by rw [hw]; exact alloc_at _ _); have Aw7 : Hid (Ans w7 (.slice a6 R0.2.l.length c6) R0.2.l) := Lib.hid (by rw [hw]; exact A6.out.grown (World.grownBy_alloc _ _ _)); have Gw7 : Hid (wr.grownBy w7 none) := Lib.hid (by rw [hw]; exact grown_alloc K6.out _); rw [← hw]; clear hw; generalize w6.heap.size = P7 at *)
              | (obtain ⟨w7, hw⟩ : ∃ W, W = ((w6.setCell ⟨wr.heap.size, 0, none⟩ (.int .i64 R0.2.v)).setCell ⟨wr.heap.size, 1, none⟩ (.string R0.2.sp)).setCell ⟨wr.heap.size, 2, none⟩ (.slice a6 R0.2.l.length c6) := ⟨_, rfl⟩; have Nw7 : Hid (w7.heap[wr.heap.size]? = some (.cells #[.int .i64 R0.2.v, .string R0.2.sp, .slice a6 R0.2.l.length c6] 24 (0, 0))) := Lib.hid (by rw [hw]; exact set3 HZ6.out); have Aw7 : Hid (Ans w7 (.slice a6 R0.2.l.length c6) R0.2.l) := Lib.hid (by rw [hw]; exact A6.out.set3 HZ6.out); have Gw7 : Hid (wr.grownBy w7 none) := Lib.hid (by rw [hw]; exact grown_set (grown_set (grown_set K6.out (.inl (Nat.le_refl _)) _) (.inl (Nat.le_refl _)) _) (.inl (Nat.le_refl _)) _); rw [← hw]; clear hw; generalize wr.heap.size = P7 at *)
            have HTw7 := Lib.hid (HT.out.grown Gw7.out)
            by_cases hz : R0.1 = 0
            · have he : errOf A R0.1 = .nilIface := by rw [hz]; rfl
              rw [he]
              clear he
              have c0 := cell_blk Nw7.out 0 rfl; have u0 := free_blk HTw7.out.h8 0; have v0 := cell_blk HTw7.out.h8 0 rfl
              have c1 := cell_blk Nw7.out 1 rfl; have u1 := free_blk HTw7.out.h8 1; have v1 := cell_blk HTw7.out.h8 1 rfl
              have c2 := cell_blk Nw7.out 2 rfl; have u2 := free_blk HTw7.out.h8 2; have v2 := cell_blk HTw7.out.h8 2 rfl
              go_wp2
              obtain ⟨w8, hw⟩ : ∃ W, W = ((w7.setCell ⟨b8, 0, none⟩ (.int .i64 R0.2.v)).setCell ⟨b8, 1, none⟩ (.string R0.2.sp)).setCell ⟨b8, 2, none⟩ (.slice a6 R0.2.l.length c6) := ⟨_, rfl⟩
              rw [← hw]
              have HT8 : Hid (GtS w w8 b8 b9 R0.2 Y (.slice a6 R0.2.l.length c6) (.slice qa Y.l.length qc) (fA :: l.take (k + 1)) (fA :: (l.drop K ++ l.take K).take k) (k + 1) k) := Lib.hid (by
                have hh := HTw7.out
                rw [hw]
                exact ⟨grown_set (grown_set (grown_set HTw7.out.gr (.inl HB8.out) _) (.inl HB8.out) _) (.inl HB8.out) _, by rw [HRR0.out]; exact withA_ok hh.ox (by have : xk.size ≤ 100 := HEk.out; show xk.size ≤ 1000; omega), hh.oy, set3 hh.h8, Aw7.out.set3 hh.h8, set3_far hh.h9 (fun e => HNe.out e.symm), hh.a9.set3 hh.h8, by rw [HSx.out, HRR0.out]; exact hh.gx.step (by rw [← HRR0.out]; exact hz), hh.gy⟩)
              clear hw c0 c1 c2 u0 u1 u2 v0 v1 v2
              obtain ⟨R1, hR⟩ : ∃ R, R = withA Y ⟨zg, zk, zf, zt⟩ := ⟨_, rfl⟩
              have HP1 : Hid (∀ p W, Ans W p Y.l → w.grownBy W none → Calls Tryz.prog 8 #[.agg #[.int .i64 Y.v, .string Y.sp, p], .agg #[.int .i64 zg, .string zk, .int .i64 zf, .int .i64 zt]] W (BdP A R1 W)) := Lib.hid (fun p W hp hW => by rw [hR]; exact HPW.out Y p ⟨zg, zk, zf, zt⟩ W HT8.out.oy hp (by have : zk.size ≤ 100 := HEm.out; show zk.size ≤ 1000; omega) hW)
              have HRR1 := Lib.hid hR
              clear hR
              have hrw := HRw.out
              have hj0 : ¬ j = 0 := by omega
              have hj1 : (j : Int) ≠ 0 := hn0
              have hm0 : (0 : Int) ≤ (m : Int) := by omega
              have hm1 : (m : Int) < (j : Int) := by have := HMj.out; omega
              have hrm := HRm.out
              have hmj := HMj.out
              have HSb : Hid (∀ W, w8.grownBy W none → W.cell? ⟨b9, 0, none⟩ = some (.int .i64 Y.v) ∧ W.cell? ⟨b9, 1, none⟩ = some (.string Y.sp) ∧ W.cell? ⟨b9, 2, none⟩ = some (.slice qa Y.l.length qc) ∧ W.cell? ⟨ug, uo + m * 4, none⟩ = some (.int .i64 zg) ∧ W.cell? ⟨ug, uo + m * 4 + 1, none⟩ = some (.string zk) ∧ W.cell? ⟨ug, uo + m * 4 + 2, none⟩ = some (.int .i64 zf) ∧ W.cell? ⟨ug, uo + m * 4 + 3, none⟩ = some (.int .i64 zt)) := Lib.hid (fun W hW => by
                have k0 := hold_b3 HT8.out.h9 hW
                obtain ⟨m0, m1, m2, m3⟩ := HXm2.out W (grown_trans HT8.out.gr hW)
                exact ⟨cell_blk k0 0 rfl, cell_blk k0 1 rfl, cell_blk k0 2 rfl, m0, m1, m2, m3⟩)
              go_region_held3 (fun w' => w'.cell? ⟨b9, 0, none⟩ = some (.int .i64 Y.v) ∧ w'.cell? ⟨b9, 1, none⟩ = some (.string Y.sp) ∧ w'.cell? ⟨b9, 2, none⟩ = some (.slice qa Y.l.length qc) ∧ w'.cell? ⟨ug, uo + m * 4, none⟩ = some (.int .i64 zg) ∧ w'.cell? ⟨ug, uo + m * 4 + 1, none⟩ = some (.string zk) ∧ w'.cell? ⟨ug, uo + m * 4 + 2, none⟩ = some (.int .i64 zf) ∧ w'.cell? ⟨ug, uo + m * 4 + 3, none⟩ = some (.int .i64 zt))
                    (first
                            | with_reducible exact HSb.out _ (grown_drewN (grown_refl _ _) 1)
                            | with_reducible exact HSb.out _ (grown_alloc (grown_drewN (grown_refl _ _) 1) _)
                            | with_reducible exact HSb.out _ (grown_drewN (grown_alloc (grown_refl _ _) _) 1)
                            | with_reducible exact HSb.out _ (K9.out)
                            | with_reducible exact HSb.out _ (grown_alloc K9.out _)
                            | with_reducible exact HSb.out _ (grown_set (grown_set (grown_set (grown_alloc K9.out _) (.inl K9.out.size) _) (.inl K9.out.size) _) (.inl K9.out.size) _)
                            | with_reducible exact HSb.out _ (grown_set (grown_set (grown_set K9.out (.inl (Nat.le_refl _)) _) (.inl (Nat.le_refl _)) _) (.inl (Nat.le_refl _)) _))
                    (first
        | (go_at_call 8; refine (HP1.out _ _ (HT8.out.a9.grown (by first | exact grown_drewN (grown_refl _ _) 1 | exact grown_alloc (grown_drewN (grown_refl _ _) 1) _ | exact grown_drewN (grown_alloc (grown_refl _ _) _) 1)) (grown_trans HT8.out.gr (by first | exact grown_drewN (grown_refl _ _) 1 | exact grown_alloc (grown_drewN (grown_refl _ _) 1) _ | exact grown_drewN (grown_alloc (grown_refl _ _) _) 1))).mono ?_; rintro e w9 ⟨p9, rfl, ha, hf, hg⟩; obtain ⟨a9, _, _, c9, rfl, -, -, -⟩ := ha.form; have A9 := Lib.hid ha; have G9 := Lib.hid hg; have K9 : Hid (w8.grownBy w9 none) := Lib.hid (grown_trans (by first | exact grown_drewN (grown_refl _ _) 1 | exact grown_alloc (grown_drewN (grown_refl _ _) 1) _ | exact grown_drewN (grown_alloc (grown_refl _ _) _) 1) hg); have HZ9 : Hid (w9.heap[w8.heap.size]? = some (.cells #[.int .i64 0, .string ⟨#[]⟩, .slice none 0 0] 24 (0, 0))) := Lib.hid (hold_b3 (alloc_at _ _) (by first | exact hg | exact grown_of_drewN (n := 1) hg)); have y0 := free_blk HZ9.out 0; have y1 := free_blk HZ9.out 1; have y2 := free_blk HZ9.out 2; have z0 := cell_blk HZ9.out 0 rfl; have z1 := cell_blk HZ9.out 1 rfl; have z2 := cell_blk HZ9.out 2 rfl; clear ha hf hg)
        | (go_at_call 8; refine (HP1.out _ _ (HT8.out.a9.grown (by first | exact grown_drewN (grown_refl _ _) 1 | exact grown_alloc (grown_drewN (grown_refl _ _) 1) _ | exact grown_drewN (grown_alloc (grown_refl _ _) _) 1)) (grown_trans HT8.out.gr (by first | exact grown_drewN (grown_refl _ _) 1 | exact grown_alloc (grown_drewN (grown_refl _ _) 1) _ | exact grown_drewN (grown_alloc (grown_refl _ _) _) 1))).mono ?_; rintro e w9 ⟨p9, rfl, ha, hf, hg⟩; obtain ⟨a9, _, _, c9, rfl, -, -, -⟩ := ha.form; have A9 := Lib.hid ha; have G9 := Lib.hid hg; have K9 : Hid (w8.grownBy w9 none) := Lib.hid (grown_trans (by first | exact grown_drewN (grown_refl _ _) 1 | exact grown_alloc (grown_drewN (grown_refl _ _) 1) _ | exact grown_drewN (grown_alloc (grown_refl _ _) _) 1) hg); clear ha hf hg))
              all_goals
                clear hrw hrm hmj
                first
                  | (obtain ⟨w10, hw⟩ : ∃ W, W = w9.alloc (.cells #[.int .i64 R1.2.v, .string R1.2.sp, .slice a9 R1.2.l.length c9] 24) := ⟨_, rfl⟩; have Nw10 : Hid (w10.heap[w9.heap.size]? = some (.cells #[.int .i64 R1.2.v, .string R1.2.sp, .slice a9 R1.2.l.length c9] 24 (0, 0))) := Lib.hid (by rw [hw]; exact alloc_at _ _); have Aw10 : Hid (Ans w10 (.slice a9 R1.2.l.length c9) R1.2.l) := Lib.hid (by rw [hw]; exact A9.out.grown (World.grownBy_alloc _ _ _)); have Gw10 : Hid (w8.grownBy w10 none) := Lib.hid (by rw [hw]; exact grown_alloc K9.out _); rw [← hw]; clear hw; generalize w9.heap.size = P10 at *)
                  | (obtain ⟨w10, hw⟩ : ∃ W, W = ((w9.setCell ⟨w8.heap.size, 0, none⟩ (.int .i64 R1.2.v)).setCell ⟨w8.heap.size, 1, none⟩ (.string R1.2.sp)).setCell ⟨w8.heap.size, 2, none⟩ (.slice a9 R1.2.l.length c9) := ⟨_, rfl⟩; have Nw10 : Hid (w10.heap[w8.heap.size]? = some (.cells #[.int .i64 R1.2.v, .string R1.2.sp, .slice a9 R1.2.l.length c9] 24 (0, 0))) := Lib.hid (by rw [hw]; exact set3 HZ9.out); have Aw10 : Hid (Ans w10 (.slice a9 R1.2.l.length c9) R1.2.l) := Lib.hid (by rw [hw]; exact A9.out.set3 HZ9.out); have Gw10 : Hid (w8.grownBy w10 none) := Lib.hid (by rw [hw]; exact grown_set (grown_set (grown_set K9.out (.inl (Nat.le_refl _)) _) (.inl (Nat.le_refl _)) _) (.inl (Nat.le_refl _)) _); rw [← hw]; clear hw; generalize w8.heap.size = P10 at *)
                have HTw10 := Lib.hid (HT8.out.grown Gw10.out)
                by_cases hz : R1.1 = 0
                · have he : errOf A R1.1 = .nilIface := by rw [hz]; rfl
                  rw [he]
                  clear he
                  have c0 := cell_blk Nw10.out 0 rfl; have u0 := free_blk HTw10.out.h9 0; have v0 := cell_blk HTw10.out.h9 0 rfl
                  have c1 := cell_blk Nw10.out 1 rfl; have u1 := free_blk HTw10.out.h9 1; have v1 := cell_blk HTw10.out.h9 1 rfl
                  have c2 := cell_blk Nw10.out 2 rfl; have u2 := free_blk HTw10.out.h9 2; have v2 := cell_blk HTw10.out.h9 2 rfl
                  go_wp2
                  obtain ⟨w11, hw⟩ : ∃ W, W = ((w10.setCell ⟨b9, 0, none⟩ (.int .i64 R1.2.v)).setCell ⟨b9, 1, none⟩ (.string R1.2.sp)).setCell ⟨b9, 2, none⟩ (.slice a9 R1.2.l.length c9) := ⟨_, rfl⟩
                  rw [← hw]
                  have HT11 : Hid (GtS w w11 b8 b9 R0.2 R1.2 (.slice a6 R0.2.l.length c6) (.slice a9 R1.2.l.length c9) (fA :: l.take (k + 1)) (fA :: (l.drop K ++ l.take K).take (k + 1)) (k + 1) (k + 1)) := Lib.hid (by
                    have hh := HTw10.out
                    rw [hw]
                    exact ⟨grown_set (grown_set (grown_set HTw10.out.gr (.inl HB9.out) _) (.inl HB9.out) _) (.inl HB9.out) _, hh.ox, by rw [HRR1.out]; exact withA_ok hh.oy (by have : zk.size ≤ 100 := HEm.out; show zk.size ≤ 1000; omega), set3_far hh.h8 HNe.out, hh.a8.set3 hh.h9, set3 hh.h9, Aw10.out.set3 hh.h9, hh.gx, by rw [HSy.out, HRR1.out]; exact hh.gy.step (by rw [← HRR1.out]; exact hz)⟩)
                  clear hw c0 c1 c2 u0 u1 u2 v0 v1 v2
                  go_roundw
                  case rel => exact ⟨k + 1, _, _, _, _, by omega, by go_num, HT11.out⟩
                  case measure => simp [intOf] <;> omega
                · have he : errOf A R1.1 = errV A R1.1 := if_neg hz
                  rw [he]
                  go_wp2
                  go_ret
                  exact ⟨rfl, HTw10.out.gr⟩
            · have he : errOf A R0.1 = errV A R0.1 := if_neg hz
              rw [he]
              go_wp2
              go_ret
              exact ⟨rfl, HTw7.out.gr⟩
        · obtain rfl : k = j := by omega
          have hlen : l.length = k := HLn.out.symm
          have hX := HT.out.gx
          have hY := HT.out.gy
          rw [List.take_of_length_le (by omega)] at hX
          rw [List.take_of_length_le (by rw [(rot_perm l K).length_eq]; omega)] at hY
          have hsm := hX.same hY (by omega) ((rot_perm l K).symm.cons fA)
          have hxl : X.l.length = k + 1 := by rw [hX.perm.length_eq, List.length_cons, hlen]
          have hyl : Y.l.length = k + 1 := by rw [hY.perm.length_eq, List.length_cons, (rot_perm l K).length_eq, hlen]
          have hmem : l.getD K an0 ∈ fA :: l := List.mem_cons_of_mem _ (by have := HKn.out; rw [List.getD_eq_getElem?_getD, List.getElem?_eq_getElem (by omega)]; exact List.getElem_mem _)
          obtain ⟨z, hz1, hz2, hz3⟩ := hX.back (by omega) (by omega) hmem (by omega)
          have HEk := Lib.hid (H0.out K HKn.out)
          have HXk : Hid (∀ W, w.grownBy W none → W.cell? ⟨ug, uo + K * 4, none⟩ = some (.int .i64 (l.getD K an0).g) ∧ W.cell? ⟨ug, uo + K * 4 + 1, none⟩ = some (.string (l.getD K an0).k) ∧ W.cell? ⟨ug, uo + K * 4 + 2, none⟩ = some (.int .i64 (l.getD K an0).f) ∧ W.cell? ⟨ug, uo + K * 4 + 3, none⟩ = some (.int .i64 (l.getD K an0).t)) := Lib.hid (fun W hW => HX1.out W hW K HKn.out)
          generalize (l.getD K an0) = e1 at *
          obtain ⟨xg, xk, xf, xt⟩ := e1
          have HXk2 : Hid (∀ W, w.grownBy W none → W.cell? ⟨ug, uo + K * 4, none⟩ = some (.int .i64 xg) ∧ W.cell? ⟨ug, uo + K * 4 + 1, none⟩ = some (.string xk) ∧ W.cell? ⟨ug, uo + K * 4 + 2, none⟩ = some (.int .i64 xf) ∧ W.cell? ⟨ug, uo + K * 4 + 3, none⟩ = some (.int .i64 xt)) := HXk
          obtain ⟨Z, hZ⟩ : ∃ Z : Bd, Z = ⟨X.v + 2, X.sp, X.l⟩ := ⟨_, rfl⟩
          have hv2 : X.v = 1 + (k : Int) := hX.ver
          have HP2 : Hid (∀ p W, Ans W p X.l → w.grownBy W none → Calls Tryz.prog 10 #[.agg #[.int .i64 X.v, .string X.sp, p], .int .i64 xg] W (fun e w' => ∃ p', e = .returned (.tuple #[.agg #[.int .i64 z.v, .string z.sp, p'], .nilIface]) ∧ Ans w' p' z.l ∧ W.grownBy w' none)) := Lib.hid (fun p W hp hW => by
            have h := HPO.out X p xg W HT.out.ox hp hW
            rw [show without ⟨X.v, X.sp, X.l⟩ xg = (0, z) from hz1] at h
            exact h.mono (fun e w' h => by obtain ⟨p', he, ha, hf, hg⟩ := h; exact ⟨p', he, ha, hg⟩))
          have HP3 : Hid (∀ p W, Ans W p z.l → w.grownBy W none → Calls Tryz.prog 8 #[.agg #[.int .i64 z.v, .string z.sp, p], .agg #[.int .i64 xg, .string xk, .int .i64 xf, .int .i64 xt]] W (fun e w' => ∃ p', e = .returned (.tuple #[.agg #[.int .i64 Z.v, .string Z.sp, p'], .nilIface]) ∧ Ans w' p' Z.l ∧ W.grownBy w' none)) := Lib.hid (fun p W hp hW => by
            have h := HPW.out z p ⟨xg, xk, xf, xt⟩ W hz2 hp (by have : xk.size ≤ 100 := HEk.out; show xk.size ≤ 1000; omega) hW
            rw [show withA ⟨z.v, z.sp, z.l⟩ ⟨xg, xk, xf, xt⟩ = (0, Z) from hz3.trans (by rw [hZ])] at h
            exact h.mono (fun e w' h => by obtain ⟨p', he, ha, hf, hg⟩ := h; exact ⟨p', he, ha, hg⟩))
          have HSa : Hid (∀ p q W, Ans W p X.l → Ans W q X.l → Calls Tryz.prog 16 #[.agg #[.int .i64 X.v, .string X.sp, p], .agg #[.int .i64 X.v, .string X.sp, q]] W fun e w' => e = .returned (.bool true) ∧ W.grownBy w' none) := Lib.hid (fun p q W hp hq => by
            refine (bsame_any X.v X.v X.sp X.sp p q X.l X.l W hp hq (by omega) (by omega)).mono (fun e w' h => ?_)
            obtain ⟨⟨r, he, hr⟩, hg⟩ := h
            rw [hr.2 ⟨rfl, rfl, rfl⟩] at he
            exact ⟨he, hg⟩)
          have HGe : Hid (∀ p W, Ans W p X.l → Calls Tryz.prog 18 #[.agg #[.int .i64 X.v, .string X.sp, p]] W fun e w' => ∃ v, e = .returned v ∧ W.grownBy w' none ∧ isIz (X.l.map (·.g)) v w') := Lib.hid (fun p W hp => (bgens_any X.v X.sp p X.l W hp (by omega)).mono (fun e w' h => by obtain ⟨v, he, hi, hw, hg⟩ := h; exact ⟨v, he, hg, hi⟩))
          have HSi : Hid (∀ W u v, isIz (X.l.map (·.g)) u W → isIz (X.l.map (·.g)) v W → Calls Tryz.prog 17 #[u, v] W fun e w' => ∃ x, e = .returned x ∧ W.grownBy w' none ∧ isV (.bool true) x w') := Lib.hid (fun W u v hu hv => (sameI_any u v _ _ W hu hv (by rw [List.length_map]; omega) (by rw [List.length_map]; omega)).mono (fun e w' h => by obtain ⟨he, q, hq⟩ := h; rw [decide_eq_true rfl] at he; exact ⟨_, he, by rw [hq]; exact grown_drewN (grown_refl _ _) q, rfl⟩))
          obtain ⟨yv, ysp, yl⟩ := Y
          obtain ⟨rfl, rfl, rfl⟩ : yv = X.v ∧ ysp = X.sp ∧ yl = X.l := ⟨hsm.1.symm, hsm.2.1.symm, hsm.2.2.symm⟩
          have hxl2 : ∃ r, X.l.length = r := ⟨_, rfl⟩
          have HXl := Lib.hid hxl
          have HZ0 : Hid (Z.v = X.v + 2 ∧ Z.sp = X.sp ∧ Z.l = X.l) := Lib.hid (by rw [hZ]; exact ⟨rfl, rfl, rfl⟩)
          clear hX hY hsm hyl hmem hz1 hz2 hz3 HXk hZ hlen hxl2
          have HSz : Hid (pa = pa) := Lib.hid rfl
          have h8 := HT.out.h8
          have hLd : ∀ W, wr.grownBy W none → (Instr.loadAt 22 (.pointer (some ⟨b8, 2, none⟩))).run Tryz.prog W = .ok (.slice pa (k + 1) pc) W := fun W hW => by
            have hc := cell_blk (hold_b3 h8 hW) 2 rfl
            rw [hxl] at hc
            simp [go_sem, hc]
          have HLd := Lib.hid hLd
          clear hLd h8 hxl
          go_wp2
          refine ba_region27 _ b8 b9 k #[.int .i64 X.v, .string X.sp, .slice pa X.l.length pc] #[.int .i64 X.v, .string X.sp, .slice qa X.l.length qc] (some ⟨ug, uo, none⟩) pa uc pc (X.l.map (·.g)) wr _ _ rfl rfl rfl rfl (fun W hW => (HSa.out _ _ W (HT.out.a8.grown hW) (HT.out.a9.grown hW)).mono (fun e w' h => ⟨_, h.1, h.2, rfl⟩)) (fun W hW => HGe.out _ W (HT.out.a8.grown hW)) (fun W hW => HGe.out _ W (HT.out.a9.grown hW)) (fun W u v _ hu hv => HSi.out W u v hu hv) (fun W hW => hold_b3 HT.out.h8 hW) (fun W hW => hold_b3 HT.out.h9 hW) hI hI (fun W hW => HLd.out W hW) (by rw [IntKind.wrap_i64]; omega) (grown_drewN (grown_refl _ _) 1) (fun us w20 hg20 => ?_)
          simp only [fill_cons, fill_nil, Act.put, List.setIfInBounds_toArray, List.set_cons_succ, List.set_cons_zero]
          have HT20 := Lib.hid (HT.out.grown hg20)
          have hk0 : (0 : Int) ≤ (K : Int) := by omega
          have hk1 : (K : Int) < (k : Int) := by have := HKn.out; omega
          have hb1 : (0 : Int) ≤ X.v := by omega
          have hb2 : X.v ≤ 100 := by omega
          clear hg20 hv2
          go_wp2
          have HSc : Hid (∀ W, w20.grownBy W none → W.cell? ⟨b8, 0, none⟩ = some (.int .i64 X.v) ∧ W.cell? ⟨b8, 1, none⟩ = some (.string X.sp) ∧ W.cell? ⟨b8, 2, none⟩ = some (.slice pa X.l.length pc) ∧ W.cell? ⟨ug, uo + K * 4, none⟩ = some (.int .i64 xg) ∧ W.cell? ⟨ug, uo + K * 4 + 1, none⟩ = some (.string xk) ∧ W.cell? ⟨ug, uo + K * 4 + 2, none⟩ = some (.int .i64 xf) ∧ W.cell? ⟨ug, uo + K * 4 + 3, none⟩ = some (.int .i64 xt)) := Lib.hid (fun W hW => by
            have k0 := hold_b3 HT20.out.h8 hW
            obtain ⟨m0, m1, m2, m3⟩ := HXk2.out W (grown_trans HT20.out.gr hW)
            exact ⟨cell_blk k0 0 rfl, cell_blk k0 1 rfl, cell_blk k0 2 rfl, m0, m1, m2, m3⟩)
          go_region_held3 (fun w' => w'.cell? ⟨b8, 0, none⟩ = some (.int .i64 X.v) ∧ w'.cell? ⟨b8, 1, none⟩ = some (.string X.sp) ∧ w'.cell? ⟨b8, 2, none⟩ = some (.slice pa X.l.length pc) ∧ w'.cell? ⟨ug, uo + K * 4, none⟩ = some (.int .i64 xg) ∧ w'.cell? ⟨ug, uo + K * 4 + 1, none⟩ = some (.string xk) ∧ w'.cell? ⟨ug, uo + K * 4 + 2, none⟩ = some (.int .i64 xf) ∧ w'.cell? ⟨ug, uo + K * 4 + 3, none⟩ = some (.int .i64 xt))
                (first
                  | with_reducible exact HSc.out _ (grown_drewN (grown_refl _ _) 1)
                  | with_reducible exact HSc.out _ (grown_alloc (grown_drewN (grown_refl _ _) 1) _)
                  | with_reducible exact HSc.out _ (grown_drewN (grown_alloc (grown_refl _ _) _) 1)
                  | with_reducible exact HSc.out _ (K12.out)
                  | with_reducible exact HSc.out _ (grown_alloc K12.out _)
                  | with_reducible exact HSc.out _ (grown_set (grown_set (grown_set (grown_alloc K12.out _) (.inl K12.out.size) _) (.inl K12.out.size) _) (.inl K12.out.size) _)
                  | with_reducible exact HSc.out _ (grown_set (grown_set (grown_set K12.out (.inl (Nat.le_refl _)) _) (.inl (Nat.le_refl _)) _) (.inl (Nat.le_refl _)) _))
                (first
                  | (go_at_call 10; refine (HP2.out _ _ (HT20.out.a8.grown (by first | exact grown_drewN (grown_refl _ _) 1 | exact grown_alloc (grown_drewN (grown_refl _ _) 1) _ | exact grown_drewN (grown_alloc (grown_refl _ _) _) 1)) (grown_trans HT20.out.gr (by first | exact grown_drewN (grown_refl _ _) 1 | exact grown_alloc (grown_drewN (grown_refl _ _) 1) _ | exact grown_drewN (grown_alloc (grown_refl _ _) _) 1))).mono ?_; rintro e w12 ⟨p12, rfl, ha, hg⟩; obtain ⟨a12, _, _, c12, rfl, -, -, -⟩ := ha.form; have A12 := Lib.hid ha; have K12 : Hid (w20.grownBy w12 none) := Lib.hid (grown_trans (by first | exact grown_drewN (grown_refl _ _) 1 | exact grown_alloc (grown_drewN (grown_refl _ _) 1) _ | exact grown_drewN (grown_alloc (grown_refl _ _) _) 1) hg); have HZ12 : Hid (w12.heap[w20.heap.size]? = some (.cells #[.int .i64 0, .string ⟨#[]⟩, .slice none 0 0] 24 (0, 0))) := Lib.hid (hold_b3 (alloc_at _ _) (by first | exact hg | exact grown_of_drewN (n := 1) hg)); have y0 := free_blk HZ12.out 0; have y1 := free_blk HZ12.out 1; have y2 := free_blk HZ12.out 2; have z0 := cell_blk HZ12.out 0 rfl; have z1 := cell_blk HZ12.out 1 rfl; have z2 := cell_blk HZ12.out 2 rfl; clear ha hg)
                  | (go_at_call 10; refine (HP2.out _ _ (HT20.out.a8.grown (by first | exact grown_drewN (grown_refl _ _) 1 | exact grown_alloc (grown_drewN (grown_refl _ _) 1) _ | exact grown_drewN (grown_alloc (grown_refl _ _) _) 1)) (grown_trans HT20.out.gr (by first | exact grown_drewN (grown_refl _ _) 1 | exact grown_alloc (grown_drewN (grown_refl _ _) 1) _ | exact grown_drewN (grown_alloc (grown_refl _ _) _) 1))).mono ?_; rintro e w12 ⟨p12, rfl, ha, hg⟩; obtain ⟨a12, _, _, c12, rfl, -, -, -⟩ := ha.form; have A12 := Lib.hid ha; have K12 : Hid (w20.grownBy w12 none) := Lib.hid (grown_trans (by first | exact grown_drewN (grown_refl _ _) 1 | exact grown_alloc (grown_drewN (grown_refl _ _) 1) _ | exact grown_drewN (grown_alloc (grown_refl _ _) _) 1) hg); clear ha hg))
          all_goals
            first
              | (obtain ⟨w13, hw⟩ : ∃ W, W = w12.alloc (.cells #[.int .i64 z.v, .string z.sp, .slice a12 z.l.length c12] 24) := ⟨_, rfl⟩; have N13 : Hid (w13.heap[w12.heap.size]? = some (.cells #[.int .i64 z.v, .string z.sp, .slice a12 z.l.length c12] 24 (0, 0))) := Lib.hid (by rw [hw]; exact alloc_at _ _); have A13 : Hid (Ans w13 (.slice a12 z.l.length c12) z.l) := Lib.hid (by rw [hw]; exact A12.out.grown (World.grownBy_alloc _ _ _)); have G13 : Hid (w20.grownBy w13 none) := Lib.hid (by rw [hw]; exact grown_alloc K12.out _); have L13 : Hid (w20.heap.size ≤ w12.heap.size) := Lib.hid (K12.out.size); rw [← hw]; clear hw; generalize w12.heap.size = P13 at N13 L13 ⊢)
              | (obtain ⟨w13, hw⟩ : ∃ W, W = ((w12.setCell ⟨w20.heap.size, 0, none⟩ (.int .i64 z.v)).setCell ⟨w20.heap.size, 1, none⟩ (.string z.sp)).setCell ⟨w20.heap.size, 2, none⟩ (.slice a12 z.l.length c12) := ⟨_, rfl⟩; obtain ⟨b7, hb7⟩ : ∃ b7, b7 = w20.heap.size := ⟨_, rfl⟩; rw [← hb7] at hw HZ12; have N13 : Hid (w13.heap[b7]? = some (.cells #[.int .i64 z.v, .string z.sp, .slice a12 z.l.length c12] 24 (0, 0))) := Lib.hid (by rw [hw]; exact set3 HZ12.out); have A13 : Hid (Ans w13 (.slice a12 z.l.length c12) z.l) := Lib.hid (by rw [hw]; exact A12.out.set3 HZ12.out); have G13 : Hid (w20.grownBy w13 none) := Lib.hid (by rw [hw]; rw [hb7]; exact grown_set (grown_set (grown_set K12.out (.inl (Nat.le_refl _)) _) (.inl (Nat.le_refl _)) _) (.inl (Nat.le_refl _)) _); have L13 : Hid (w20.heap.size ≤ b7) := Lib.hid (Nat.le_of_eq hb7.symm); rw [← hb7, ← hw]; clear hw; generalize b7 = P13 at N13 L13 ⊢)
            go_wp2
            have HSd : Hid (∀ W, w13.grownBy W none → W.cell? ⟨P13, 0, none⟩ = some (.int .i64 z.v) ∧ W.cell? ⟨P13, 1, none⟩ = some (.string z.sp) ∧ W.cell? ⟨P13, 2, none⟩ = some (.slice a12 z.l.length c12) ∧ W.cell? ⟨ug, uo + K * 4, none⟩ = some (.int .i64 xg) ∧ W.cell? ⟨ug, uo + K * 4 + 1, none⟩ = some (.string xk) ∧ W.cell? ⟨ug, uo + K * 4 + 2, none⟩ = some (.int .i64 xf) ∧ W.cell? ⟨ug, uo + K * 4 + 3, none⟩ = some (.int .i64 xt)) := Lib.hid (fun W hW => by
              have k0 := hold_b3 N13.out hW
              obtain ⟨m0, m1, m2, m3⟩ := HXk2.out W (grown_trans (grown_trans HT20.out.gr G13.out) hW)
              exact ⟨cell_blk k0 0 rfl, cell_blk k0 1 rfl, cell_blk k0 2 rfl, m0, m1, m2, m3⟩)
            go_region_held3 (fun w' => w'.cell? ⟨P13, 0, none⟩ = some (.int .i64 z.v) ∧ w'.cell? ⟨P13, 1, none⟩ = some (.string z.sp) ∧ w'.cell? ⟨P13, 2, none⟩ = some (.slice a12 z.l.length c12) ∧ w'.cell? ⟨ug, uo + K * 4, none⟩ = some (.int .i64 xg) ∧ w'.cell? ⟨ug, uo + K * 4 + 1, none⟩ = some (.string xk) ∧ w'.cell? ⟨ug, uo + K * 4 + 2, none⟩ = some (.int .i64 xf) ∧ w'.cell? ⟨ug, uo + K * 4 + 3, none⟩ = some (.int .i64 xt))
                  (first
                    | with_reducible exact HSd.out _ (grown_drewN (grown_refl _ _) 1)
                    | with_reducible exact HSd.out _ (grown_alloc (grown_drewN (grown_refl _ _) 1) _)
                    | with_reducible exact HSd.out _ (grown_drewN (grown_alloc (grown_refl _ _) _) 1)
                    | with_reducible exact HSd.out _ (K14.out)
                    | with_reducible exact HSd.out _ (grown_alloc K14.out _)
                    | with_reducible exact HSd.out _ (grown_set (grown_set (grown_set (grown_alloc K14.out _) (.inl K14.out.size) _) (.inl K14.out.size) _) (.inl K14.out.size) _)
                    | with_reducible exact HSd.out _ (grown_set (grown_set (grown_set K14.out (.inl (Nat.le_refl _)) _) (.inl (Nat.le_refl _)) _) (.inl (Nat.le_refl _)) _))
                  (first
                    | (go_at_call 8; refine (HP3.out _ _ (A13.out.grown (by first | exact grown_drewN (grown_refl _ _) 1 | exact grown_alloc (grown_drewN (grown_refl _ _) 1) _ | exact grown_drewN (grown_alloc (grown_refl _ _) _) 1)) (grown_trans (grown_trans HT20.out.gr G13.out) (by first | exact grown_drewN (grown_refl _ _) 1 | exact grown_alloc (grown_drewN (grown_refl _ _) 1) _ | exact grown_drewN (grown_alloc (grown_refl _ _) _) 1))).mono ?_; rintro e w14 ⟨p14, rfl, ha, hg⟩; obtain ⟨a14, _, _, c14, rfl, -, -, -⟩ := ha.form; have A14 := Lib.hid ha; have K14 : Hid (w13.grownBy w14 none) := Lib.hid (grown_trans (by first | exact grown_drewN (grown_refl _ _) 1 | exact grown_alloc (grown_drewN (grown_refl _ _) 1) _ | exact grown_drewN (grown_alloc (grown_refl _ _) _) 1) hg); have HZ14 : Hid (w14.heap[w13.heap.size]? = some (.cells #[.int .i64 0, .string ⟨#[]⟩, .slice none 0 0] 24 (0, 0))) := Lib.hid (hold_b3 (alloc_at _ _) (by first | exact hg | exact grown_of_drewN (n := 1) hg)); have y0 := free_blk HZ14.out 0; have y1 := free_blk HZ14.out 1; have y2 := free_blk HZ14.out 2; have z0 := cell_blk HZ14.out 0 rfl; have z1 := cell_blk HZ14.out 1 rfl; have z2 := cell_blk HZ14.out 2 rfl; clear ha hg)
                    | (go_at_call 8; refine (HP3.out _ _ (A13.out.grown (by first | exact grown_drewN (grown_refl _ _) 1 | exact grown_alloc (grown_drewN (grown_refl _ _) 1) _ | exact grown_drewN (grown_alloc (grown_refl _ _) _) 1)) (grown_trans (grown_trans HT20.out.gr G13.out) (by first | exact grown_drewN (grown_refl _ _) 1 | exact grown_alloc (grown_drewN (grown_refl _ _) 1) _ | exact grown_drewN (grown_alloc (grown_refl _ _) _) 1))).mono ?_; rintro e w14 ⟨p14, rfl, ha, hg⟩; obtain ⟨a14, _, _, c14, rfl, -, -, -⟩ := ha.form; have A14 := Lib.hid ha; have K14 : Hid (w13.grownBy w14 none) := Lib.hid (grown_trans (by first | exact grown_drewN (grown_refl _ _) 1 | exact grown_alloc (grown_drewN (grown_refl _ _) 1) _ | exact grown_drewN (grown_alloc (grown_refl _ _) _) 1) hg); clear ha hg))
            all_goals
              first
                | (obtain ⟨w15, hw⟩ : ∃ W, W = w14.alloc (.cells #[.int .i64 Z.v, .string Z.sp, .slice a14 Z.l.length c14] 24) := ⟨_, rfl⟩; have N15 : Hid (w15.heap[w14.heap.size]? = some (.cells #[.int .i64 Z.v, .string Z.sp, .slice a14 Z.l.length c14] 24 (0, 0))) := Lib.hid (by rw [hw]; exact alloc_at _ _); have A15 : Hid (Ans w15 (.slice a14 Z.l.length c14) Z.l) := Lib.hid (by rw [hw]; exact A14.out.grown (World.grownBy_alloc _ _ _)); have G15 : Hid (w13.grownBy w15 none) := Lib.hid (by rw [hw]; exact grown_alloc K14.out _); have L15 : Hid (w13.heap.size ≤ w14.heap.size) := Lib.hid (K14.out.size); rw [← hw]; clear hw; generalize w14.heap.size = P15 at N15 L15 ⊢)
                | (obtain ⟨w15, hw⟩ : ∃ W, W = ((w14.setCell ⟨w13.heap.size, 0, none⟩ (.int .i64 Z.v)).setCell ⟨w13.heap.size, 1, none⟩ (.string Z.sp)).setCell ⟨w13.heap.size, 2, none⟩ (.slice a14 Z.l.length c14) := ⟨_, rfl⟩; obtain ⟨b7, hb7⟩ : ∃ b7, b7 = w13.heap.size := ⟨_, rfl⟩; rw [← hb7] at hw HZ14; have N15 : Hid (w15.heap[b7]? = some (.cells #[.int .i64 Z.v, .string Z.sp, .slice a14 Z.l.length c14] 24 (0, 0))) := Lib.hid (by rw [hw]; exact set3 HZ14.out); have A15 : Hid (Ans w15 (.slice a14 Z.l.length c14) Z.l) := Lib.hid (by rw [hw]; exact A14.out.set3 HZ14.out); have G15 : Hid (w13.grownBy w15 none) := Lib.hid (by rw [hw]; rw [hb7]; exact grown_set (grown_set (grown_set K14.out (.inl (Nat.le_refl _)) _) (.inl (Nat.le_refl _)) _) (.inl (Nat.le_refl _)) _); have L15 : Hid (w13.heap.size ≤ b7) := Lib.hid (Nat.le_of_eq hb7.symm); rw [← hb7, ← hw]; clear hw; generalize b7 = P15 at N15 L15 ⊢)
              obtain ⟨q1, q2, q3⟩ := HZ0.out
              rw [q1, q2, q3] at N15
              rw [q3] at A15
              have HT15 := Lib.hid (HT20.out.grown (grown_trans G13.out G15.out))
              have f1 : b8 ≠ P15 := by have := blk_lt HT20.out.h8; have := L15.out; have := G13.out.size; omega
              have f2 := f1.symm
              have HPw : Hid (w.heap.size ≤ P15) := Lib.hid (by have := L15.out; have := HT20.out.gr.size; have := G13.out.size; omega)
              have m0 := cell_blk N15.out 0 rfl; have x0 := cell_blk HT15.out.h8 0 rfl
              have m1 := cell_blk N15.out 1 rfl; have x1 := cell_blk HT15.out.h8 1 rfl
              have m2 := cell_blk N15.out 2 rfl; have x2 := cell_blk HT15.out.h8 2 rfl
              have u0 := free_blk N15.out 0
              clear q1 q2 q3
              go_wp2_with (go_at_call 16; refine (HSa.out _ _ _ (A15.out.set1 N15.out) (HT15.out.a8.set1 N15.out)).mono ?_; rintro e w16 ⟨rfl, hg⟩; have HG16 := Lib.hid hg; clear hg)
              go_ret
              exact ⟨rfl, grown_trans (grown_set HT15.out.gr (.inl HPw.out) _) HG16.out⟩
end Go.Proofs.YtihioekepflpiaaGreatDoor
