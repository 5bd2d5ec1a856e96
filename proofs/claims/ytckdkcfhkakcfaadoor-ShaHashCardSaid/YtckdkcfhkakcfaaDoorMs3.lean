/- The walk of mac's appendSize. -/
import Derived.Test.YtckdkcfhkakcfaaDoorMs2
namespace Go.Proofs.YtckdkcfhkakcfaaDoor
open Go.RowKit

def be4 (n : Nat) : List Nat := [n / 16777216 % 256, n / 65536 % 256, n / 256 % 256, n % 256]
theorem be4_lt (n : Nat) : ∀ x ∈ be4 n, x < 256 := by
  intro x hx
  simp only [be4, List.mem_cons, List.not_mem_nil, or_false] at hx
  rcases hx with rfl | rfl | rfl | rfl <;> exact Nat.mod_lt _ (by decide)

set_option maxRecDepth 100000 in
set_option maxHeartbeats 400000 in
theorem size_any (v : Value) (n m base : Nat) (xs : List Value) (w : World) (ho : w.ownsRow base 5 1 v n xs) (hb : base ≤ w.heap.size) (hn : n ≤ 1099511620000) (hm : m ≤ 1099511620000) :
    Calls Tryd.prog 55 #[v, .int .i64 m] w fun e w' => ∃ v', e = .returned v' ∧ w'.ownsRow base 5 1 v' (n + 4) (xs ++ cellsL (be4 m)) ∧ w.grownBy w' v.ownBlock := by
  have HO := Lib.hid (ho.alloc (Obj.cells (cellsL (be4 m)).toArray 5))
  have hB := Bytes.lit (l := be4 m) (alloc_at w (Obj.cells (cellsL (be4 m)).toArray 5)) (be4_lt m)
  have he : (cellsL (be4 m)).toArray = #[Value.int IntKind.u8 ((m : Int) / 16777216 % 256), Value.int IntKind.u8 ((m : Int) / 65536 % 256), Value.int IntKind.u8 ((m : Int) / 256 % 256), Value.int IntKind.u8 ((m : Int) % 256)] := by simp [cellsL, be4]
  rw [he] at HO hB
  have HB := Lib.hid hB
  clear ho hB he
  go_enter Tryd.func55, Tryd.ntmps55
  go_wp2_with (at_builtin; refine wpList_appB (by rfl) (.tmp 5) (.tmp 17) 25 (by rfl) base 5 (.int .u8 0) 1 Tryd.underlying25 (by kernel_rfl) rfl (by decide) v n xs (by rfl) HO.out (.slice (some ⟨w.heap.size, 0, none⟩) 4 4) (be4 m) (by rfl) HB.out (Whole0.some _ _ _) (by show n + 4 ≤ _; omega) (by rw [alloc_size]; omega) ?_; intro v' w' ho' hg'; have HO' := Lib.hid ho'; have HG' := Lib.hid hg'; clear ho' hg')
  go_ret
  exact ⟨v', rfl, HO'.out, grown_trans (World.grownBy_alloc w _ _) HG'.out⟩
end Go.Proofs.YtckdkcfhkakcfaaDoor
