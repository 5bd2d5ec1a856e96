/- Steps of drawn regions: slices of ints built there, and calls that are handed them. -/
import Derived.Test.YtndjhhebmbmppaaDoorFl6
import Derived.Test.YtndjhhebmbmppaaDoorMk3
namespace Go.Proofs.YtndjhhebmbmppaaDoor
open Go.RowKit

def isI (l : List Int) : Value → World → Prop := fun x w => Ints w x l
def isIfI (g b : Bool) (l : List Int) : Value → World → Prop := fun x w => g = b → Ints w x l
theorem stays_I (l : List Int) : Stays (isI l) := fun _ _ _ hg h => Ints.grown h hg
theorem stays_IfI (g b : Bool) (l : List Int) : Stays (isIfI g b l) := fun _ _ _ hg h e => Ints.grown (h e) hg
theorem eval_const {a : Act} {v : Value} : a.eval (.const v) = v := rfl
theorem buildI1_val {a : Act} {o : Oper} {w : World} {x : Operand} {n : Int} (ho : o.op = .buildSlice 61 1 #[(0, x)]) (hx : a.eval x = .int .i64 n) :
    (execOp a.eval o).run Tryd.prog w = .ok (.value (.slice (some ⟨w.heap.size, 0, none⟩) 1 1)) (w.alloc (.cells #[.int .i64 n] 3)) := build1_val ho hx (by simp [go_sem])
theorem buildI2_val {a : Act} {o : Oper} {w : World} {x y : Operand} {n m : Int} (ho : o.op = .buildSlice 61 2 #[(0, x), (1, y)]) (hx : a.eval x = .int .i64 n) (hy : a.eval y = .int .i64 m) :
    (execOp a.eval o).run Tryd.prog w = .ok (.value (.slice (some ⟨w.heap.size, 0, none⟩) 2 2)) (w.alloc (.cells #[.int .i64 n, .int .i64 m] 3)) := by
  have hb : (Instr.buildSlice 61 2 #[(0, .int .i64 n), (1, .int .i64 m)]).run Tryd.prog w = .ok (.slice (some ⟨w.heap.size, 0, none⟩) 2 2) (w.alloc (.cells #[.int .i64 n, .int .i64 m] 3)) := by simp [go_sem]
  simp only [execOp, ho, List.map_toArray, List.map_cons, List.map_nil, hx, hy]
  simp [Result.andThen, hb]
theorem within_g (lo hi : Int) {l : List Int} {w : World} {c : Bool} (v : Value) (h : Ints w v l) (hl : l.length ≤ 1000000) (hc : inB lo hi l = c) :
    Calls Tryd.prog 35 #[.int .i64 lo, .int .i64 hi, v] w fun e w' => e = .returned (.bool c) ∧ w.grownBy w' none :=
  (within_any lo hi v l w h hl).mono (fun e w' h => ⟨by rw [h.1, hc], by rw [h.2]; exact grown_refl _ _⟩)
end Go.Proofs.YtndjhhebmbmppaaDoor
