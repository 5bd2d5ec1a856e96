/- The walk of the constants. The walks of the table, of the comparison of lists and of the law ShaConstants. -/
import Derived.Test.YtckdkcfhkakcfaaDoorCo2
import Derived.Test.YtckdkcfhkakcfaaDoorOwn
import Derived.Test.YtckdkcfhkakcfaaDoorSh11
namespace Go.Proofs.YtckdkcfhkakcfaaDoor
open Go.RowKit

def intL (ws : List Nat) : List Value := ws.map fun (x : Nat) => Value.int .i64 (x : Int)

set_option maxRecDepth 100000 in
set_option maxHeartbeats 1000000 in
theorem constants_any (w : World) :
    Calls Tryd.prog 25 #[] w fun e w' => ∃ v, e = .returned v ∧ w.grownBy w' none ∧ w'.ownsRow w.heap.size 3 1 v 64 (intL Co.table) := by
  go_enter Tryd.func25, Tryd.ntmps25
  go_wp2
  go_loopw [1, 2] (fun v vp wr => ∃ p : Nat, 2 ≤ p ∧ p ≤ 312 ∧ vp = .int .i64 p ∧ w.grownBy wr none ∧ wr.ownsRow w.heap.size 3 1 v (Co.outN (p - 2)).length (intL (Co.outN (p - 2)))) (fun _ vp _ => 312 - (intOf vp).toNat)
  case atStart => exact ⟨2, by omega, by omega, rfl, World.grownBy_alloc _ _ _, ownsRow_lit (alloc_at _ _) (Nat.le_refl _) (by simp)⟩
  case round =>
    obtain ⟨p, hp1, hp2, rfl, hg, ho⟩ := hrel
    obtain ⟨a, g, c, rfl, hf⟩ := ownsRow_form ho
    have HF := Lib.hid hf
    have HG := Lib.hid hg
    clear hf hg
    by_cases hlt : p < 312
    · have hl := Co.out_lt (p - 2) (by omega)
      obtain ⟨L, hL⟩ : ∃ L, L = Co.outN (p - 2) := ⟨_, rfl⟩
      rw [← hL] at ho hl ⊢
      have HL := Lib.hid hL
      have HO := Lib.hid ho
      clear hL ho
      obtain ⟨m, hm⟩ : ∃ m, m = L.length := ⟨_, rfl⟩
      rw [← hm] at hl HO ⊢
      have Hm := Lib.hid hm
      clear hm
      go_wp2
      obtain ⟨wo, rfl⟩ : ∃ wo : World, wo = wr := ⟨_, rfl⟩
      go_loop [3, 4] (fun vb vd => ∃ d : Nat, 2 ≤ d ∧ d ≤ p ∧ vd = .int .i64 d ∧ vb = .bool (Co.primeN p (d - 2))) (fun _ vd => p - (intOf vd).toNat)
      case atStart => exact ⟨2, by omega, by omega, rfl, rfl⟩
      case round =>
        obtain ⟨d, hd1, hd2, rfl, rfl⟩ := hrel
        by_cases hdp : d < p
        · have HP : Hid (Co.primeN p (d + 1 - 2) = (Co.primeN p (d - 2) && p % d != 0)) := Lib.hid (by
            rw [show d + 1 - 2 = (d - 2) + 1 by omega, Co.primeN, show d - 2 + 2 = d by omega])
          cases hpr : Co.primeN p (d - 2) with
          | true =>
            rw [hpr] at HP
            by_cases hz : p % d = 0
            · have hb : (((p : Int) % (d : Int)) != 0) = false := by rw [bne_eq_false_iff_eq]; omega
              go_wp2
              go_round
              case rel => exact ⟨d + 1, by omega, by omega, by go_num, by rw [HP.out]; simp [hz]⟩
              case measure => simp [intOf]; omega
            · have hb : (((p : Int) % (d : Int)) != 0) = true := by rw [bne_iff_ne]; omega
              go_wp2
              go_round
              case rel => exact ⟨d + 1, by omega, by omega, by go_num, by rw [HP.out]; simp [hz]⟩
              case measure => simp [intOf]; omega
          | false =>
            rw [hpr] at HP
            go_wp2
            go_round
            case rel => exact ⟨d + 1, by omega, by omega, by go_num, by rw [HP.out]; simp⟩
            case measure => simp [intOf]; omega
        · obtain rfl : d = p := by omega
          have HN : Hid (Co.outN (d + 1 - 2) = if Co.primeN d (d - 2) then L ++ [Co.root d] else L) := Lib.hid (by
            rw [show d + 1 - 2 = (d - 2) + 1 by omega, Co.outN, show d - 2 + 2 = d by omega, HL.out]; rfl)
          cases hpr : Co.primeN d (d - 2) with
          | true =>
            rw [hpr, if_pos rfl] at HN
            go_wp2_with (first
              | (go_at_call 49; refine (root_any d (by omega) wo).mono ?_; rintro e w2 ⟨rfl, hg2⟩; have HG2 := Lib.hid hg2; clear hg2)
              | (at_builtin; refine wpList_app1 (by rfl) (.tmp 24) (.tmp 27) 43 (by rfl) w.heap.size 3 (.int .i64 0) 8 Tryd.underlying43 (by kernel_rfl) rfl (by decide) (.slice a m c) m (intL L) (by rfl) ((HO.out.kept HG2.out (by cases a <;> simp [Value.ownBlock])).alloc _) ⟨w2.heap.size, 0, none⟩ (.int .i64 (Co.root d : Nat)) (by rfl) (cell_blk (alloc_at _ _) 0 rfl) rfl (by omega) (by have := HG.out.size; have := HG2.out.size; rw [alloc_size]; omega) ?_; intro v' w3 ho3 hg3; have HO3 := Lib.hid ho3; have HG3 := Lib.hid (grown_own (grown_alloc (grown_trans HG.out HG2.out) _) ((HO.out.kept HG2.out (by cases a <;> simp [Value.ownBlock])).alloc _) (Nat.le_refl _) hg3); clear ho3 hg3))
            go_roundw
            case rel =>
              refine ⟨d + 1, by omega, by omega, by go_num, HG3.out, ?_⟩
              rw [HN.out]
              have := HO3.out
              rw [Hm.out] at this
              simpa [intL] using this
            case measure => simp [intOf]; omega
          | false =>
            rw [hpr] at HN
            go_wp2
            go_roundw
            case rel =>
              refine ⟨d + 1, by omega, by omega, by go_num, HG.out, ?_⟩
              rw [HN.out]
              simp only [Bool.false_eq_true, if_false]
              rw [← Hm.out]
              exact HO.out
            case measure => simp [intOf]; omega
    · obtain rfl : p = 312 := by omega
      rw [show 312 - 2 = 310 from rfl, Co.out310, show Co.table.length = 64 from rfl] at ho ⊢
      have HO := Lib.hid ho
      clear ho
      go_wp2
      go_ret
      exact ⟨_, rfl, HG.out, HO.out⟩
end Go.Proofs.YtckdkcfhkakcfaaDoor
namespace Go.Proofs.YtckdkcfhkakcfaaDoor
open Go.RowKit

def tableV : Array Value := (intL Co.table).toArray
set_option maxRecDepth 100000 in
set_option maxHeartbeats 1000000 in
theorem table_any (w : World) :
    Calls Tryd.prog 26 #[] w fun e w' => e = .returned (.slice (some ⟨w.heap.size, 0, none⟩) 64 64) ∧ w' = w.alloc (.cells tableV 3) := by
  go_enter Tryd.func26, Tryd.ntmps26
  go_wp2
  go_ret
  exact ⟨rfl, rfl⟩

/-- The slice v has just the ints l. -/
def IntsAt (w : World) (v : Value) (l : List Nat) : Prop :=
  ∃ (a : Option Addr) (g c : Nat), v = .slice a l.length c ∧ l.length ≤ c ∧ (0 < l.length → a = some ⟨g, 0, none⟩ ∧ g < w.heap.size) ∧ ∀ j, j < l.length → w.cell? ⟨g, j, none⟩ = some (.int .i64 (l.getD j 0 : Nat))

set_option maxRecDepth 100000 in
set_option maxHeartbeats 1000000 in
theorem sameInts_any (w : World) (v1 v2 : Value) (l : List Nat) (h1 : IntsAt w v1 l) (h2 : IntsAt w v2 l) (hl : l.length < 1099511627776) :
    Calls Tryd.prog 24 #[v1, v2] w fun e w' => e = .returned (.bool true) ∧ ∃ n, w' = w.drewN n := by
  obtain ⟨a1, g1, c1, rfl, k1, k2, k3⟩ := h1
  obtain ⟨a2, g2, c2, rfl, m1, m2, m3⟩ := h2
  have K2 := Lib.hid k2
  have K3 := Lib.hid k3
  have M2 := Lib.hid m2
  have M3 := Lib.hid m3
  obtain ⟨n, hn⟩ : ∃ n, n = l.length := ⟨_, rfl⟩
  rw [← hn] at K2 K3 M2 M3 hl k1 m1 ⊢
  clear hn k2 k3 m2 m3
  go_enter Tryd.func24, Tryd.ntmps24
  go_wp2
  go_loopw [13] (fun i wr => ∃ k q : Nat, k ≤ n ∧ i = .int .i64 k ∧ wr = w.drewN q) (fun i _ => n - (intOf i).toNat)
  case atStart => exact ⟨0, 0, Nat.zero_le _, rfl, rfl⟩
  case round =>
    obtain ⟨k, q, hk, rfl, rfl⟩ := hrel
    by_cases hlt : k < n
    · obtain ⟨rfl, _⟩ := K2.out (by omega)
      obtain ⟨rfl, _⟩ := M2.out (by omega)
      obtain ⟨x, hx⟩ : ∃ x, x = l.getD k 0 := ⟨_, rfl⟩
      have f1 : w.cell? ⟨g1, k, none⟩ = some (.int .i64 (x : Int)) := by rw [hx]; exact K3.out k hlt
      have f2 : w.cell? ⟨g2, k, none⟩ = some (.int .i64 (x : Int)) := by rw [hx]; exact M3.out k hlt
      have hb : ((x : Int) != (x : Int)) = false := by simp
      clear hx
      go_wp2
      go_quiet (fail)
      go_wp2
      go_roundw
      case rel => exact ⟨k + 1, _, by omega, by go_num, rfl⟩
      case measure => simp [intOf]; omega
    · obtain rfl : k = n := by omega
      go_wp2
      go_ret
      exact ⟨rfl, _, rfl⟩

theorem intsAt_own {w : World} {base : Nat} {v : Value} {l : List Nat} {n : Nat} (h : w.ownsRow base 3 1 v n (intL l)) (hn : n = l.length) : IntsAt w v l := by
  subst hn
  obtain ⟨a, g, c, rfl, h1, h2, h3, h4⟩ := ownsRow_form h
  exact ⟨a, g, c, rfl, h1, fun h => ⟨(h3 h).1, (h3 h).2.2⟩, fun j hj => by rw [h4 j hj]; simp [intL, hj]⟩
theorem intsAt_blk {w : World} {g : Nat} {l : List Nat} (h : w.heap[g]? = some (.cells (intL l).toArray 3 (0, 0))) : IntsAt w (.slice (some ⟨g, 0, none⟩) l.length l.length) l :=
  ⟨_, g, _, rfl, Nat.le_refl _, fun _ => ⟨rfl, blk_lt h⟩, fun j hj => cell_blk h j (by simp [intL, hj])⟩
theorem IntsAt.grown {w w' : World} {v : Value} {l : List Nat} (h : IntsAt w v l) (hg : w.grownBy w' none) : IntsAt w' v l := by
  obtain ⟨a, g, c, rfl, h1, h2, h3⟩ := h
  exact ⟨a, g, c, rfl, h1, fun h => ⟨(h2 h).1, Nat.lt_of_lt_of_le (h2 h).2 hg.size⟩, fun j hj => by
    rw [World.cell?_of_block (hg.block g (h2 (by omega)).2 (by simp))]; exact h3 j hj⟩

set_option maxRecDepth 100000 in
set_option maxHeartbeats 1000000 in
theorem shaConstants_any (w : World) (hL : Laid w) :
    Calls Tryd.prog 5 #[] w fun e w' => e = .returned (.bool true) ∧ w.grownBy w' none := by
  have HL := Lib.hid hL
  clear hL
  go_enter Tryd.func5, Tryd.ntmps5
  go_wp2_with fail
  refine (alive_any w HL.out).mono ?_
  rintro e w1 ⟨rfl, hg1⟩
  have G1 := Lib.hid hg1
  clear hg1
  go_wp2_with fail
  refine (constants_any w1).mono ?_
  rintro e w2 ⟨v, rfl, hg2, ho2⟩
  have G2 := Lib.hid hg2
  have O2 := Lib.hid (intsAt_own ho2 rfl)
  clear hg2 ho2
  go_wp2_with fail
  refine (table_any w2).mono ?_
  rintro e w3 ⟨rfl, hw3⟩
  have O3 : Hid (IntsAt w3 (.slice (some ⟨w2.heap.size, 0, none⟩) 64 64) Co.table) := Lib.hid (by rw [hw3]; exact intsAt_blk (alloc_at _ _))
  have G3 : Hid (w2.grownBy w3 none) := Lib.hid (by rw [hw3]; exact World.grownBy_alloc _ _ _)
  clear hw3
  go_wp2_with fail
  refine (sameInts_any w3 _ _ Co.table (O2.out.grown G3.out) O3.out (by decide)).mono ?_
  rintro e w4 ⟨rfl, q, rfl⟩
  go_wp2
  go_ret
  exact ⟨rfl, grown_drewN (grown_trans (grown_trans G1.out G2.out) G3.out) _⟩
end Go.Proofs.YtckdkcfhkakcfaaDoor
