/- The walks of the constants' limbs. -/
import Derived.Test.YtckdkcfhkakcfaaDoorLib
import Derived.Test.YtckdkcfhkakcfaaDoorCoM
import Derived.Test.YtckdkcfhkakcfaaDoorQTail
import Derived.Test.YtckdkcfhkakcfaaDoorRows
import Derived.WalkKit
import Derived.WalkSpells
import Derived.WalkLawsBesides
import Derived.Deep.QuietTactic
import Derived.BigQuiet
import Derived.Lib.Hide
import Derived.LoopTactic
namespace Go.Proofs.YtckdkcfhkakcfaaDoor
open Go.RowKit

def u64V (ws : List Nat) : Array Value := (ws.map fun (x : Nat) => Value.int .u64 (x : Int)).toArray
theorem u64V_at (ws : List Nat) (i : Nat) (h : i < ws.length) : (u64V ws)[i]? = some (.int .u64 (ws.getD i 0 : Nat)) := by
  simp [u64V, h]
theorem u64V_set (ws : List Nat) (i x : Nat) : (u64V ws).setIfInBounds i (.int .u64 (x : Int)) = u64V (ws.set i x) := by
  simp [u64V, List.map_set]
def IsLim (w : World) (b : Nat) (xs : List Nat) : Prop := w.heap[b]? = some (.cells (u64V xs) 95 (0, 0))

theorem wrap_u64 (n : Nat) (h : n < 18446744073709551616) : IntKind.u64.wrap (n : Int) = n := by
  simp only [IntKind.wrap, IntKind.bits, IntKind.signed]
  simp
  omega
theorem set_at {w : World} {b i x : Nat} {xs : List Nat} (h : IsLim w b xs) : IsLim (w.setCell ⟨b, i, none⟩ (.int .u64 (x : Int))) b (xs.set i x) := by
  have := setCell_heap (i := i) h (.int .u64 (x : Int))
  rwa [u64V_set] at this

set_option maxRecDepth 100000 in
set_option maxHeartbeats 1000000 in
theorem coadd_any (xs : List Nat) (hx : Co.Lim xs) (i n : Nat) (hi : i ≤ 5) (hn : n < 18446744073709551616) (b : Nat) (w : World) (hB : IsLim w b xs) :
    Calls Tryd.prog 68 #[.slice (some ⟨b, 0, none⟩) 5 5, .int .i64 i, .int .u64 n] w fun e w' => e = .returned (.tuple #[]) ∧ w.grownBy w' (some b) ∧ IsLim w' b (Co.add xs i n) := by
  have HB := Lib.hid hB
  have HX := Lib.hid hx
  have HN := Lib.hid hn
  clear hB hx hn
  go_enter Tryd.func68, Tryd.ntmps68
  go_wp2
  go_loopw [1, 2] (fun vi vn wr => ∃ (i' n' : Nat) (xs' : List Nat), vi = .int .i64 i' ∧ vn = .int .u64 n' ∧ i' ≤ 5 ∧ Hid (n' < 18446744073709551616) ∧ Co.Lim xs' ∧ IsLim wr b xs' ∧ w.grownBy wr (some b) ∧ Co.add xs' i' n' = Co.add xs i n) (fun vi _ _ => 5 - (intOf vi).toNat)
  case atStart => exact ⟨i, n, xs, rfl, rfl, hi, HN, HX.out, HB.out, grown_refl _ _, rfl⟩
  case round =>
    obtain ⟨i', n', xs', rfl, rfl, hi', HN', hx', hB', hg', he⟩ := hrel
    by_cases h1 : i' < 5
    · by_cases h2 : 0 < n'
      · obtain ⟨x, hxx⟩ : ∃ x, x = xs'.getD i' 0 := ⟨_, rfl⟩
        have hlx : x < 4294967296 := by rw [hxx]; exact hx'.at i'
        have c := cell_blk hB' i' (u64V_at xs' i' (by rw [hx'.len]; exact h1))
        have f := free_blk hB' i'
        rw [← hxx] at c
        have HE := Lib.hid he
        have HB' := Lib.hid hB'
        have HX' := Lib.hid hx'
        have HG' := Lib.hid hg'
        have Hxx := Lib.hid hxx
        clear he hB' hx' hg' hxx
        go_wp2
        go_roundw
        case rel =>
          have hN := HN'.out
          refine ⟨i' + 1, n' / 4294967296 + (x + n' % 4294967296) / 4294967296, xs'.set i' ((x + n' % 4294967296) % 4294967296), by go_num, ?_, by omega, Lib.hid (by omega), HX'.out.set _ _ (Nat.mod_lt _ (by decide)), ?_, grown_set HG'.out (.inr rfl) _, ?_⟩
          · have e : (n' : Int) / 4294967296 + ((x : Int) + (n' : Int) % 4294967296) / 4294967296 = ((n' / 4294967296 + (x + n' % 4294967296) / 4294967296 : Nat) : Int) := by omega
            rw [e, wrap_u64 _ (by omega)]
          · have e : ((x : Int) + (n' : Int)) % 4294967296 = (((x + n' % 4294967296) % 4294967296 : Nat) : Int) := by omega
            rw [e]; exact set_at HB'.out
          · rw [← HE.out, Co.add_step h1 h2, Hxx.out]
        case measure => simp [intOf]; omega
      · have hst := Co.add_stop (xs := xs') (i := i') (n := n') (fun h => h2 h.2)
        rw [hst] at he
        have HE := Lib.hid he
        have HB' := Lib.hid hB'
        have HG' := Lib.hid hg'
        obtain rfl : n' = 0 := by omega
        clear he hB' hx' hg' hst
        go_wp2
        go_end0
        exact ⟨rfl, HG'.out, by rw [← HE.out]; exact HB'.out⟩
    · have hst := Co.add_stop (xs := xs') (i := i') (n := n') (fun h => h1 h.1)
      rw [hst] at he
      have HE := Lib.hid he
      have HB' := Lib.hid hB'
      have HG' := Lib.hid hg'
      obtain rfl : i' = 5 := by omega
      clear he hB' hx' hg' hst
      go_wp2
      go_end0
      exact ⟨rfl, HG'.out, by rw [← HE.out]; exact HB'.out⟩
end Go.Proofs.YtckdkcfhkakcfaaDoor
