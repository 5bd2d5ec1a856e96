/- The walk of package whole's Range; the law's alive. -/
import Derived.Test.YtbbkhdgkpacjgaaDoorWp4
namespace Go.Proofs.YtbbkhdgkpacjgaaDoor
open Go.RowKit

/-- What Range answers, and the error's number. -/
def rangeOf (l : List Nat) (least most : Int) : Int × Nat :=
  match Wh.get l with
  | .error k => (0, k)
  | .ok n => if n < least ∨ most < n then (0, 1) else (n, 0)

set_option maxRecDepth 100000 in
theorem range_any (A : Nat → Addr) (v : Value) (l : List Nat) (least most : Int) (w : World) (hB : Bytes w v l) (hE : AllErrs w A) :
    Calls Tryd.prog 16 #[v, .int .i64 least, .int .i64 most] w fun e w' => e = .returned (.tuple #[.int .i64 (rangeOf l least most).1, errOf A (rangeOf l least most).2]) ∧ w.grownBy w' none := by
  have hG := get_any A v l w hB hE
  have HE := Lib.hid (fun W hW => err_range (hE.grown (w' := W) hW))
  obtain ⟨_, va, vb, vo, vc, rfl, _⟩ := hB
  unfold GtPost at hG
  unfold rangeOf
  generalize l.length = n at *
  clear hE
  cases hg : Wh.get l with
  | error k =>
    have hk : k ≠ 0 := by
      intro h
      subst h
      rw [Wh.get] at hg
      split at hg
      · cases hg
      · split at hg
        · cases hg
        · split at hg <;> cases hg
    rw [hg] at hG
    have HGt := Lib.hid hG
    clear hg hG
    have HEr : Hid (errOf A k = errV A k) := Lib.hid (by rw [errOf, if_neg hk])
    go_enter Tryd.func16, Tryd.ntmps16
    go_wp2_with (go_at_call 9; refine HGt.out.mono ?_; rintro e w' ⟨rfl, hg⟩; have HG := Lib.hid hg; clear hg)
    go_ret2
    exact ⟨by rw [HEr.out]; rfl, HG.out⟩
  | ok z =>
    rw [hg] at hG
    have HGt := Lib.hid hG
    clear hg hG
    by_cases h1 : z < least
    · go_enter Tryd.func16, Tryd.ntmps16
      go_wp2_with (go_at_call 9; refine HGt.out.mono ?_; rintro e w' ⟨rfl, hg⟩; have HG := Lib.hid hg; have eR := HE.out _ hg; clear hg)
      go_quiet (fail)
      go_wp2
      go_ret2
      exact ⟨rfl, grown_drewN HG.out _⟩
    · by_cases h2 : most < z
      · go_enter Tryd.func16, Tryd.ntmps16
        go_wp2_with (go_at_call 9; refine HGt.out.mono ?_; rintro e w' ⟨rfl, hg⟩; have HG := Lib.hid hg; have eR := HE.out _ hg; clear hg)
        go_quiet (fail)
        go_wp2
        go_ret2
        exact ⟨rfl, grown_drewN HG.out _⟩
      · go_enter Tryd.func16, Tryd.ntmps16
        go_wp2_with (go_at_call 9; refine HGt.out.mono ?_; rintro e w' ⟨rfl, hg⟩; have HG := Lib.hid hg; clear hg)
        go_ret2
        exact ⟨rfl, HG.out⟩

set_option maxRecDepth 100000 in
theorem alive4_any (w : World) :
    Calls Tryd.prog 7 #[] w fun e w' => e = .returned (.bool true) ∧ w.grownBy w' none := by
  have h1 := fun w => put_any 128 (by decide) (by decide) w
  have h2 := fun w => put_any (-129) (by decide) (by decide) w
  rw [show Wh.body 128 = [0, 128] by decide] at h1
  rw [show Wh.body (-129) = [255, 127] by decide] at h2
  have HP : Hid (∀ w, Calls Tryd.prog 8 #[.int .i64 128] w fun e w' => e = .returned (.slice (some ⟨w.heap.size, 0, none⟩) 2 2) ∧ w.grownBy w' none ∧ Bytes w' (.slice (some ⟨w.heap.size, 0, none⟩) 2 2) [0, 128]) := Lib.hid h1
  have HM : Hid (∀ w, Calls Tryd.prog 8 #[.int .i64 (-129)] w fun e w' => e = .returned (.slice (some ⟨w.heap.size, 0, none⟩) 2 2) ∧ w.grownBy w' none ∧ Bytes w' (.slice (some ⟨w.heap.size, 0, none⟩) 2 2) [255, 127]) := Lib.hid h2
  have k1 : ((strOf [0, 128]).toList == [0, 128]) = true := by decide +kernel
  have k2 : ((strOf [255, 127]).toList == [255, 127]) = true := by decide +kernel
  clear h1 h2
  go_enter Tryd.func7, Tryd.ntmps7
  go_wp2_with (first
    | (go_at_call 8; with_reducible refine (HP.out _).mono ?_; rintro e w1 ⟨rfl, hg1, hB1⟩; have HG1 := Lib.hid hg1; have c1 := conv_bytes (P := Tryd.prog) hB1 23 5 9 Tryd.underlying23 Tryd.underlying5 Tryd.underlying9; clear hg1 hB1)
    | (go_at_call 8; with_reducible refine (HM.out _).mono ?_; rintro e w2 ⟨rfl, hg2, hB2⟩; have HG2 := Lib.hid hg2; have c2 := conv_bytes (P := Tryd.prog) hB2 23 5 9 Tryd.underlying23 Tryd.underlying5 Tryd.underlying9; clear hg2 hB2))
  go_ret
  exact ⟨rfl, grown_trans HG1.out HG2.out⟩
end Go.Proofs.YtbbkhdgkpacjgaaDoor
