import Derived.Test.YtgdnndapmcjoeaaDoorKe21
import Derived.Test.YtgdnndapmcjoeaaDoorRows
import Derived.ProofKit
import Derived.OpenShut
import Derived.Lay
import Derived.Stop.LaidErr
import Derived.Below
import Derived.Carry
import Derived.LaidMore
import Derived.Lib.SmallJoins
namespace Go.Proofs.YtgdnndapmcjoeaaDoor
open Go.ChangeShapes Go.WideShapes Go.ChangeAt Go.RowKit
theorem own2 : ownKnob Tryd.prog.godebug = none := by kernel_rfl
theorem laidOut2 : laidOutB Tryd.prog = true := by kernel_rfl
theorem cEs : Tryd.prog.cellsOf 177 = 1 := by kernel_rfl
theorem cStr : Tryd.prog.cellsOf 9 = 1 := by kernel_rfl
theorem cSl : Tryd.prog.cellsOf 22 = 1 := by kernel_rfl
theorem cU8 : Tryd.prog.cellsOf 5 = 1 := by kernel_rfl
theorem starEs : "*" ++ "errors.errorString" = "*errors.errorString" := by decide
theorem rowEs (u : TypeId) (h : Tryd.prog.typeName? 3 u = some "*errors.errorString") : u = 153 :=
  typeName_ptr_named (nm := "errors.errorString") (by rw [starEs]; kernel_rfl) (by kernel_rfl) (by decide) u (by rw [starEs]; exact h)
theorem var_lt {W : World} {n : String} {g : Nat} {cs : Array Value} (hg : Tryd.prog.globalNamed n = some g) (h : W.var? Tryd.prog n = some cs) : g < W.heap.size := by
  unfold World.var? at h
  rw [hg] at h
  simp only [Option.bind_some] at h
  rcases Nat.lt_or_ge g W.heap.size with h' | h'
  · exact h'
  · simp [Array.getElem?_eq_none h'] at h
theorem cell_lt {W : World} {a : Addr} {v : Value} (h : W.cell? a = some v) : a.block < W.heap.size := by
  rcases Nat.lt_or_ge a.block W.heap.size with h1 | h1
  · exact h1
  · unfold World.cell? at h
    simp [Array.getElem?_eq_none h1] at h
/-- Bytes that came in. -/
theorem bytes_in {H : Type} {enc : TypeId × Value → H} {W : World} {base : Nat} {sp : Nat → Bool} {held : Bool} {v : Value} {d : DataW H} {p : List MemPlace} (h : DataW.Trod enc Tryd.prog W base sp held 22 v d p)
    (hok : ∃ a l c, v = .slice a l c) : ∃ l, Bytes W v l ∧ Whole0 v ∧ l.length ≤ maxLen := by
  obtain ⟨a0, len, cap, rfl⟩ := hok
  obtain ⟨fuel, hf⟩ := h
  rcases open_ints Tryd.underlying22 Tryd.underlying5 cU8 hf with ⟨hcs, hx⟩ | ⟨a, len', cap', zs, hcs, _, hl, hm, hz, hx, hcell, hwz⟩
  · simp [Value.cells] at hcs
    obtain ⟨rfl, rfl, rfl⟩ := hcs
    exact ⟨[], ⟨(by simp), none, 0, 0, 0, rfl, Nat.le_refl _, fun h => absurd h (Nat.lt_irrefl _), fun j hj => absurd hj (Nat.not_lt_zero _)⟩, fun n c e => by cases e; exact ⟨rfl, rfl⟩, by unfold maxLen; simp⟩
  · simp [Value.cells] at hcs
    obtain ⟨rfl, rfl, rfl⟩ := hcs
    have hzl : len ≤ zs.length := by rw [hz]; split <;> omega
    have hzl2 : zs.length ≤ maxLen := by rw [hz]; split <;> omega
    refine ⟨(zs.take len).map Int.toNat, ?_, Whole0.some _ _ _, by rw [List.length_map, List.length_take]; omega⟩
    have hll : ((zs.take len).map Int.toNat).length = len := by rw [List.length_map, List.length_take]; omega
    have hnat : ∀ x ∈ zs, ((x.toNat : Nat) : Int) = x := fun x hx => Int.toNat_of_nonneg (bounds_u8 (hwz x hx)).1
    have hgd : ∀ j, j < len → (((zs.take len).map Int.toNat).getD j 0 : Int) = zs.getD j 0 := fun j hj => by
      have h1 : j < zs.length := by omega
      simp [hj, h1]
      have := (bounds_u8 (hwz _ (List.getElem_mem h1))).1
      omega
    refine ⟨?_, ?_⟩
    · intro x hx
      obtain ⟨y, hy, rfl⟩ := List.mem_map.1 hx
      have := bounds_u8 (hwz y (List.mem_of_mem_take hy))
      omega
    · rcases Nat.eq_zero_or_pos len with h0 | h0
      · subst h0
        exact ⟨some a, 0, 0, cap, by rw [hll], by rw [hll]; exact hl, fun h => by rw [hll] at h; omega, fun j hj => by rw [hll] at hj; omega⟩
      · obtain ⟨b, off, rfl, hc⟩ := ints_at hcell (by omega)
        refine ⟨_, b, off, cap, by rw [hll], by rw [hll]; exact hl, fun _ => ⟨rfl, ?_⟩, fun j hj => ?_⟩
        · exact cell_lt (hc 0 (by omega))
        · rw [hll] at hj
          rw [hc j (by omega), hgd j hj]
end Go.Proofs.YtgdnndapmcjoeaaDoor
