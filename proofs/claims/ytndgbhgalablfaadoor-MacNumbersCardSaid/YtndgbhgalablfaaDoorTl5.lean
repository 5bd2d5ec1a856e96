/- bytes.Compare and bytes.Clone. -/
import Derived.Test.YtndgbhgalablfaaDoorSub
import Derived.Test.YtndgbhgalablfaaDoorTl0
import Derived.Test.YtndgbhgalablfaaDoorMs5
import Derived.Laws.Externs
import Derived.WalkKit
import Derived.Lib.Hide
namespace Go.Proofs.YtndgbhgalablfaaDoor
open Go.RowKit

theorem run_loadBytes {P : Program} {w : World} {sb : Nat} (l : List Nat) : ∀ (so : Nat) (acc : List Nat), (∀ j, j < l.length → w.cell? ⟨sb, so + j, none⟩ = some (.int .u8 (l.getD j 0 : Nat))) → (∀ x ∈ l, x < 256) →
    (Extern.Bytes.loadBytes ⟨sb, so, none⟩ l.length (strOf acc)).run P w = .ok (strOf (acc ++ l)) w := by
  induction l with
  | nil => intro so acc _ _; rw [List.append_nil]; rfl
  | cons x r ih =>
    intro so acc h hlt
    have hx := hlt x (by simp)
    have h0 := h 0 (by simp)
    simp only [List.getD_cons_zero, Nat.add_zero] at h0
    rw [List.length_cons, Extern.Bytes.loadBytes]
    simp only [Sem.run_bind, run_load, h0, Result.andThen]
    rw [addr_addO]
    have e : (strOf acc).push (x : Int).toNat.toUInt8 = strOf (acc ++ [x]) := by
      rw [Int.toNat_natCast]
      simp [strOf, ByteArray.push]
    rw [e]
    have := ih (so + 1) (acc ++ [x]) (fun j hj => by have := h (j + 1) (by simp; omega); rw [Nat.add_assoc, Nat.add_comm 1 j, this]; simp) (fun y hy => hlt y (by simp [hy]))
    rw [this, List.append_assoc]
    rfl
theorem run_bytesOf {P : Program} {w : World} {v : Value} {l : List Nat} (hB : Bytes w v l) (h0 : Whole0 v) : (Extern.Bytes.bytesOf v).run P w = .ok (strOf l) w := by
  obtain ⟨hlt, a, sb, so, c, rfl, hc, ha, hcell⟩ := hB
  match a with
  | none =>
    obtain ⟨hn, _⟩ := h0 _ _ rfl
    obtain rfl := List.eq_nil_of_length_eq_zero hn
    rfl
  | some ad =>
    match l, ha, hcell, hlt, hc, h0 with
    | [], _, _, _, _, _ => rfl
    | x :: r, ha, hcell, hlt, _, _ =>
      obtain ⟨e, _⟩ := ha (by simp)
      obtain rfl := Option.some.inj e
      have := run_loadBytes (P := P) (w := w) (sb := sb) (x :: r) so [] hcell hlt
      rw [List.nil_append] at this
      exact this

set_option maxRecDepth 100000 in
theorem compare_any (v u : Value) (A B : List Nat) (w : World) (hA : Bytes w v A) (hB : Bytes w u B) (hv : Whole0 v) (hu : Whole0 u) :
    Calls Tryd.prog 73 #[v, u] w fun e w' => e = .returned (.int .i64 (Tl.cmpB A B)) ∧ w' = w := by
  have h77 : (callFunc 77 #[v, u]).run Tryd.prog w = .ok (.value (.int .i64 (Tl.cmpB A B))) w := by
    rw [@run_callFunc_extern Tryd.prog 77 _ Extern.BytealgCompare.compare Tryd.func77 (by kernel_rfl) (by kernel_rfl) (by kernel_rfl) (by kernel_rfl)]
    have e : Extern.BytealgCompare.compare #[v, u] = (do pure (goInt (Extern.BytealgCompare.cmp (← Extern.Bytes.bytesOf v) (← Extern.Bytes.bytesOf u)))) := rfl
    rw [e]
    simp only [Sem.run_bind, run_bytesOf hA hv, run_bytesOf hB hu, Result.andThen]
    rfl
  obtain ⟨_, va, _, _, vc, rfl, _⟩ := hA
  obtain ⟨_, ua, _, _, uc, rfl, _⟩ := hB
  generalize Tl.cmpB A B = c at *
  go_enter Tryd.func73, Tryd.ntmps73
  go_wp2
  go_ret
  exact ⟨rfl, rfl⟩

set_option maxRecDepth 100000 in
theorem clone_any (v : Value) (l : List Nat) (w : World) (hB : Bytes w v l) (h0 : Whole0 v) (hl : l.length ≤ 1099511620000) :
    Calls Tryd.prog 45 #[v] w fun e w' => ∃ u, e = .returned u ∧ FrW w w' u l ∧ ∃ a c, u = .slice a l.length c := by
  have HB := Lib.hid hB
  have H0 := Lib.hid h0
  obtain ⟨hlt, a, sb, so, c, rfl, hc, ha, hcell⟩ := hB
  have Hlt := Lib.hid hlt
  obtain ⟨n, hn⟩ : ∃ n, n = l.length := ⟨_, rfl⟩
  have HN := Lib.hid hn
  rw [← hn] at HB H0 hl ⊢
  clear hlt hc ha hcell
  have heq : ∀ (w : World) (a : Option Addr), (binOp .eql 22 (.slice a n c) (.slice none 0 0)).run Tryd.prog w = .ok (.bool a.isNone) w := fun w a => Lib.run_eql_slice_nil w 22 5 a n c 0 0 Tryd.underlying22
  match a, HB, H0, h0 with
  | none, HB, H0, h0 =>
    obtain ⟨h1, h2⟩ := h0 _ _ rfl
    have hl0 : l = [] := List.eq_nil_of_length_eq_zero (by rw [← hn]; omega)
    subst hl0
    obtain rfl : n = 0 := hn
    subst h2
    clear h0
    go_enter Tryd.func45, Tryd.ntmps45
    go_wp2
    go_ret
    exact ⟨_, rfl, ⟨grown_refl _ _, ownsRow_empty _ _ _⟩, _, _, rfl⟩
  | some ad, HB, H0, h0 =>
    clear h0 hn
    have F1 : Hid (FrW w (w.alloc (.cells #[] 5)) (.slice (some ⟨w.heap.size, 0, none⟩) 0 0) []) := Lib.hid ⟨World.grownBy_alloc _ _ _, ownsRow_lit (alloc_at w _) (Nat.le_refl _) (by simp)⟩
    go_enter Tryd.func45, Tryd.ntmps45
    go_wp2_with (at_builtin; refine wpList_appB (by rfl) (.tmp 5) (.tmp 6) 22 (by rfl) w.heap.size 5 (.int .u8 0) 1 Tryd.underlying22 (by kernel_rfl) rfl (by decide) _ 0 [] (by rfl) F1.out.own _ l (by rfl) (HB.out.grown F1.out.grown) H0.out (by rw [← HN.out]; omega) F1.out.le ?_; intro v2 w2 ho2 hg2; have F2 := Lib.hid (F1.out.step (l' := l) ho2 hg2 rfl); have HO2 := Lib.hid ho2; clear ho2 hg2)
    go_ret
    obtain ⟨a2, _, c2, rfl, _⟩ := ownsRow_form F2.out.own
    exact ⟨_, rfl, F2.out, a2, c2, by rw [HN.out]; rfl⟩
end Go.Proofs.YtndgbhgalablfaaDoor
