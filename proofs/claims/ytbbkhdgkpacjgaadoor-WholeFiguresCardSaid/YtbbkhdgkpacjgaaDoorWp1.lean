/- The walks of package whole: Truth, IsTrue. -/
import Derived.Test.YtbbkhdgkpacjgaaDoorEv
import Derived.Test.YtbbkhdgkpacjgaaDoorSub
import Derived.Test.YtbbkhdgkpacjgaaDoorMs4
namespace Go.Proofs.YtbbkhdgkpacjgaaDoor
open Go.RowKit

theorem retB {a b : Bool} (h : a = b) : Ending.returned (.bool a) = .returned (.bool b) := by rw [h]

theorem truth_any (b : Bool) (w : World) :
    Calls Tryd.prog 18 #[.bool b] w fun e w' => e = .returned (.slice (some ⟨w.heap.size, 0, none⟩) 1 1) ∧ w.grownBy w' none ∧ Bytes w' (.slice (some ⟨w.heap.size, 0, none⟩) 1 1) [if b then 255 else 0] := by
  have H : ∀ x : Nat, x < 256 → w.grownBy (w.alloc (.cells #[.int .u8 (x : Int)] 5)) none ∧ Bytes (w.alloc (.cells #[.int .u8 (x : Int)] 5)) (.slice (some ⟨w.heap.size, 0, none⟩) 1 1) [x] := fun x hx =>
    ⟨World.grownBy_alloc _ _ _, Bytes.lit (l := [x]) (alloc_at w _) (by simpa using hx)⟩
  have H0 := Lib.hid (H 0 (by decide))
  have H1 := Lib.hid (H 255 (by decide))
  clear H
  go_enter Tryd.func18, Tryd.ntmps18
  cases b
  · go_wp2
    go_ret
    exact ⟨rfl, H0.out⟩
  · go_wp2
    go_ret
    exact ⟨rfl, H1.out⟩

/-- What IsTrue answers: the truth, and the error's number. -/
def isTrue (l : List Nat) : Bool × Nat :=
  match l with
  | [] => (false, 2)
  | [x] => if x = 0 then (false, 0) else if x = 255 then (true, 0) else (false, 4)
  | _ => (false, 4)

set_option maxRecDepth 100000 in
theorem isTrue_any (A : Nat → Addr) (v : Value) (l : List Nat) (w : World) (hB : Bytes w v l) (hE : AllErrs w A) :
    Calls Tryd.prog 17 #[v] w fun e w' => e = .returned (.tuple #[.bool (isTrue l).1, errOf A (isTrue l).2]) ∧ w.grownBy w' none := by
  have eS := err_short hE
  have eF := err_form hE
  clear hE
  obtain ⟨hlt, a, sb, so, c, rfl, hc, ha, hcell⟩ := hB
  match l, hlt, hc, ha, hcell with
  | [], hlt, hc, ha, hcell =>
    clear hlt ha hcell
    go_enter Tryd.func17, Tryd.ntmps17
    go_wp2
    go_quiet (fail)
    go_wp2
    go_ret2
    exact ⟨rfl, grown_drewN (grown_refl _ _) _⟩
  | [x], hlt, hc, ha, hcell =>
    obtain ⟨rfl, ha2⟩ := ha (by simp)
    have c0 : w.cell? ⟨sb, so, none⟩ = some (.int .u8 (x : Nat)) := hcell 0 (by simp)
    have hx := hlt x (by simp)
    clear hlt ha hcell
    go_enter Tryd.func17, Tryd.ntmps17
    by_cases h0 : x = 0
    · subst h0
      go_wp2
      go_ret2
      exact ⟨rfl, grown_refl _ _⟩
    · by_cases h1 : x = 255
      · subst h1
        go_wp2
        go_ret2
        exact ⟨rfl, grown_refl _ _⟩
      · have HX : Hid (isTrue [x] = (false, 4)) := Lib.hid (by simp [isTrue, h0, h1])
        have d1 : ((x : Int) != 255) = true := by simp; omega
        have d2 : ((x : Int) != 0) = true := by simp; omega
        go_wp2
        go_quiet (fail)
        go_wp2
        go_ret2
        rw [HX.out]
        exact ⟨rfl, grown_drewN (grown_refl _ _) _⟩
  | x :: y :: r, hlt, hc, ha, hcell =>
    have HX : Hid (isTrue (x :: y :: r) = (false, 4)) := Lib.hid rfl
    have hl : 1 < (x :: y :: r).length := by simp
    generalize (x :: y :: r) = L at *
    obtain ⟨n, hn⟩ : ∃ n, n = L.length := ⟨_, rfl⟩
    rw [← hn] at hl hc ⊢
    clear hlt ha hcell hn
    go_enter Tryd.func17, Tryd.ntmps17
    go_wp2
    go_quiet (fail)
    go_wp2
    go_ret2
    rw [HX.out]
    exact ⟨rfl, grown_drewN (grown_refl _ _) _⟩
end Go.Proofs.YtbbkhdgkpacjgaaDoor
