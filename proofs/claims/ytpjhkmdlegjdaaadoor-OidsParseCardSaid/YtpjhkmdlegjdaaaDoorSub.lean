/- Pieces of a slice of bytes. -/
import Derived.Test.YtpjhkmdlegjdaaaDoorChecked
import Derived.Test.YtpjhkmdlegjdaaaDoorAp
import Derived.KernelRfl
import Derived.Laws.Slices
namespace Go.Proofs.YtpjhkmdlegjdaaaDoor
open Go.RowKit

section
variable {P : Program}

theorem Whole0.len {a : Option Addr} {n c : Nat} (h : Whole0 (.slice a n c)) : a = none → n = 0 ∧ c = 0 := fun e => by subst e; exact h _ _ rfl

theorem Bytes.cap {w : World} {a : Option Addr} {n c : Nat} {l : List Nat} (h : Bytes w (.slice a n c) l) : n = l.length ∧ n ≤ c := by
  obtain ⟨_, _, _, _, _, he, hc, _⟩ := h
  cases he
  exact ⟨rfl, hc⟩
/-- Where a piece begins. -/
def subA (a : Option Addr) (k c : Nat) : Option Addr := if c = k then a else a.map (·.add k)
theorem subA_none {a : Option Addr} {k c : Nat} (h : subA a k c = none) : a = none := by
  unfold subA at h
  split at h
  · exact h
  · cases a
    · rfl
    · cases h
/-- Behind the first k. -/
theorem Bytes.from {w : World} {a : Option Addr} {n c : Nat} {l : List Nat} (hB : Bytes w (.slice a n c) l) (k : Nat) (hk : k ≤ n) : Bytes w (.slice (subA a k c) (n - k) (c - k)) (l.drop k) := by
  obtain ⟨h1, a1, sb, so, c1, he, hc, ha, hcell⟩ := hB
  cases he
  refine ⟨fun x hx => h1 x (List.mem_of_mem_drop hx), subA a k c, sb, so + k, c - k, by rw [List.length_drop], by rw [List.length_drop]; omega, fun hpos => ?_, fun j hj => ?_⟩
  · rw [List.length_drop] at hpos
    obtain ⟨e, hlt⟩ := ha (by omega)
    refine ⟨?_, hlt⟩
    rw [subA, if_neg (by omega), e, Option.map_some, addr_addO]
  · rw [List.length_drop] at hj
    have := hcell (k + j) (by omega)
    rw [← Nat.add_assoc] at this
    rw [this]
    simp [List.getD_eq_getElem?_getD]
theorem Whole0.from {a : Option Addr} {n c : Nat} (h0 : Whole0 (.slice a n c)) (k : Nat) : Whole0 (.slice (subA a k c) (n - k) (c - k)) := fun n' c' e => by
  simp only [Value.slice.injEq] at e
  obtain ⟨e1, e2, e3⟩ := e
  have := h0.len (subA_none e1)
  omega
/-- The first k. -/
theorem Bytes.to {w : World} {a : Option Addr} {n c : Nat} {l : List Nat} (hB : Bytes w (.slice a n c) l) (k : Nat) (hk : k ≤ n) : Bytes w (.slice a k c) (l.take k) := by
  obtain ⟨h1, a1, sb, so, c1, he, hc, ha, hcell⟩ := hB
  cases he
  refine ⟨fun x hx => h1 x (List.mem_of_mem_take hx), a, sb, so, c, by rw [List.length_take, Nat.min_eq_left hk], by rw [List.length_take]; omega, fun hpos => ?_, fun j hj => ?_⟩
  · rw [List.length_take] at hpos
    exact ha (by omega)
  · rw [List.length_take] at hj
    rw [hcell j (by omega)]
    simp [List.getD_eq_getElem?_getD, show j < k by omega]
theorem Whole0.to {a : Option Addr} {n c : Nat} (h0 : Whole0 (.slice a n c)) (k : Nat) (hk : k ≤ n) : Whole0 (.slice a k c) := fun n' c' e => by
  simp only [Value.slice.injEq] at e
  obtain ⟨e1, e2, e3⟩ := e
  have := h0.len e1
  omega
end

theorem elemU8 : Tryd.prog.underlying 30 = some (.slice (Tryd.prog.elem 30)) := by kernel_rfl
theorem sizeU8 (w : World) : (sizeOf (Tryd.prog.elem 30)).run Tryd.prog w = .ok 1 w := by kernel_rfl
/-- The walk's own words for pieces of bytes: the 'if' at the end of the room behind one name. -/
@[go_sem high] theorem run_from8 (w : World) (a : Option Addr) (n c : Nat) (i : Int) (h0 : 0 ≤ i) (h1 : i ≤ n) :
    (Instr.slice 30 (.slice a n c) (some (.int .i64 i)) none none).run Tryd.prog w = .ok (.slice (subA a i.toNat c) (n - i.toNat) (c - i.toNat)) w := by
  rw [run_slice_l w 30 a n c elemU8 .i64 i h0 h1, sizeU8]
  simp only [Result.andThen, sliced, Nat.mul_one, subA]
@[go_sem high] theorem run_from8_1 (w : World) (a : Option Addr) (n c : Nat) :
    (Instr.slice 30 (.slice a (n + 1) c) (some (.int .i64 1)) none none).run Tryd.prog w = .ok (.slice (subA a 1 c) n (c - 1)) w := by
  rw [run_from8 w a (n + 1) c 1 (by decide) (by omega)]
  rfl
@[go_sem high] theorem run_to8 (w : World) (a : Option Addr) (n c : Nat) (i : Int) (h0 : 0 ≤ i) (h1 : i ≤ c) :
    (Instr.slice 30 (.slice a n c) none (some (.int .i64 i)) none).run Tryd.prog w = .ok (.slice a i.toNat c) w := by
  have hadd : ∀ x : Addr, x.add 0 = x := fun x => by unfold Addr.add; split <;> simp_all
  rw [run_slice_h w 30 a n c elemU8 .i64 i h0 h1, sizeU8]
  simp only [Result.andThen, sliced, Nat.mul_one, Nat.sub_zero]
  congr 2
  split
  · rfl
  · cases a
    · rfl
    · simp [hadd]
end Go.Proofs.YtpjhkmdlegjdaaaDoor
