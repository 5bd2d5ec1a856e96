/- mac.masked: each byte of a block with its mask. -/
import Derived.Test.YtckdkcfhkakcfaaDoorHm1
namespace Go.Proofs.YtckdkcfhkakcfaaDoor
open Go.RowKit

set_option maxRecDepth 100000 in
set_option maxHeartbeats 1000000 in
theorem masked_any (b : List Nat) (hb : b.length = 64) (hlt : ∀ x ∈ b, x < 256) (c : Nat) (hc : c < 256) (w : World) :
    Calls Tryd.prog 51 #[.agg (bytesV b), .int .u8 c] w fun e w' => e = .returned (.slice (some ⟨w.heap.size, 0, none⟩) 64 64) ∧ w.grownBy w' none ∧ w'.heap[w.heap.size]? = some (.cells (bytesV (Hm.mask c b)) 70 (0, 0)) := by
  obtain ⟨V, hV⟩ : ∃ V, V = bytesV b := ⟨_, rfl⟩
  have i64 : Hid ((Tryd.prog.info? 70).map (·.size) = some V.size) := by rw [hV, bytesV_size, hb]; exact Lib.hid (by kernel_rfl)
  rw [← hV]
  have T0 : Hid ((w.alloc (.cells V 70)).heap[w.heap.size]? = some (.cells (bytesV (half c b 0)) 70 (0, 0))) := Lib.hid (by rw [show half c b 0 = b by simp [half, Hm.mask], ← hV]; exact alloc_at _ _)
  have Hb := Lib.hid hb
  have Hlt := Lib.hid hlt
  clear hV hb hlt
  go_enter Tryd.func51, Tryd.ntmps51
  go_wp2
  go_loopw [6] (fun i wr => ∃ k : Nat, k ≤ 64 ∧ i = .int .i64 k ∧ w.grownBy wr none ∧ wr.heap[w.heap.size]? = some (.cells (bytesV (half c b k)) 70 (0, 0))) (fun i _ => 64 - (intOf i).toNat)
  case atStart => exact ⟨0, by omega, rfl, World.grownBy_alloc _ _ _, T0.out⟩
  case round =>
    obtain ⟨k, hk, rfl, hg, hB⟩ := hrel
    by_cases hk64 : k < 64
    · have hkb : k < b.length := by rw [Hb.out]; exact hk64
      have c0 := cell_blk hB k (half_at c b k hkb)
      have f0 := free_blk hB k
      have hx256 : b.getD k 0 < 256 := getD_lt' Hlt.out k
      have hxor := u8_xor_nat (b.getD k 0) c hx256 hc
      have HN : Hid ((wr.setCell ⟨w.heap.size, k, none⟩ (.int .u8 ((b.getD k 0 ^^^ c : Nat) : Int))).heap[w.heap.size]? = some (.cells (bytesV (half c b (k + 1))) 70 (0, 0))) := Lib.hid (by rw [setCell_heap hB, half_set c b k hkb])
      have HG := Lib.hid hg
      clear hB hg hkb
      generalize b.getD k 0 = x at *
      go_wp2
      go_roundw
      case rel => exact ⟨k + 1, by omega, by go_num, grown_set HG.out (.inl (Nat.le_refl _)) _, HN.out⟩
      case measure => simp [intOf]; omega
    · obtain rfl : k = 64 := by omega
      have HG := Lib.hid hg
      have HB : Hid (wr.heap[w.heap.size]? = some (.cells (bytesV (Hm.mask c b)) 70 (0, 0))) := Lib.hid (by rw [hB]; congr 3; rw [← Hb.out]; exact half_full c b)
      clear hB hg
      go_wp2
      go_ret
      exact ⟨rfl, HG.out, HB.out⟩
end Go.Proofs.YtckdkcfhkakcfaaDoor
