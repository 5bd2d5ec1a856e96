/- Errors that are laid among a row's variables, in whatever order: each has an address of its own. It names no program, but for the last. -/
import Derived.Test.YtndgbhgalablfaaDoorNm1
import Derived.Test.YtndgbhgalablfaaDoorOpn
namespace Go.Proofs.YtndgbhgalablfaaDoor
open Go.ChangeShapes Go.WideShapes Go.ChangeAt Go.RowKit

section
variable {P : Program} {W : World} {ti tp te ts : TypeId} {ms : Array (String × TypeId)} {nm : String} {f : Field}

def IsSent (P : Program) (ti : TypeId) (nm : String) (x : String × DataW Unit) : Prop :=
  (∃ text, x.2 = .iface nm (.ptr (.agg [.lit (.string text)]))) ∧ ∃ g, P.globalNamed x.1 = some g ∧ (P.globals[g]?).map (·.type) = some ti

theorem sents (hi : P.underlying ti = some (.interface ms)) (hrow : ∀ u, P.typeName? 3 u = some nm → u = tp)
    (hp : P.underlying tp = some (.pointer te)) (he : P.underlying te = some (.struct #[f])) (hft : f.type = ts) (hfo : f.offset = 0) (hs : P.underlying ts = some .string) (hc : P.cellsOf te = 1) (hcs : P.cellsOf ts = 1) :
    ∀ (L : List (String × DataW Unit)) (ps : List MemPlace), DataW.LaidVars P W L ps → ps.Nodup →
      (∀ b off, MemPlace.cell b off ∈ ps → (∃ c t, W.heap[b]? = some (.cells c t (0, 0))) ∧ ∀ u v, W.cell? ⟨b, off, none⟩ = some (.iface u v) → Value.okWide P W .any 0 u v) →
      ∃ A : Nat → Addr, (∀ i x, L[i]? = some x → IsSent P ti nm x → W.var? P x.1 = some #[.iface tp (.pointer (some (A i)))] ∧ MemPlace.cell (A i).block (A i).off ∈ ps ∧ ∃ c t, W.heap[(A i).block]? = some (.cells c t (0, 0))) ∧
        ∀ i j x y, L[i]? = some x → L[j]? = some y → IsSent P ti nm x → IsSent P ti nm y → i ≠ j → A i ≠ A j
  | [], ps, _, _, _ => ⟨fun _ => ⟨0, 0, none⟩, fun i x h => (by simp at h), fun i j x y h => (by simp at h)⟩
  | x :: L, ps, hV, hnd, hrows => by
    obtain ⟨n, d⟩ := x
    obtain ⟨g0, t0, cs0, f0, p0, q0, hg0, ht0, hv0, hd0, hrest, rfl⟩ := hV
    have hq : ∀ y ∈ q0, y ∈ MemPlace.row ⟨g0, 0, none⟩ cs0.size ++ p0 ++ q0 := fun y hy => List.mem_append_right _ hy
    have hnq := List.nodup_append.1 hnd
    obtain ⟨A, h1, h2⟩ := sents hi hrow hp he hft hfo hs hc hcs L q0 hrest hnq.2.1 (fun b off hb => hrows b off (hq _ hb))
    have head : ∃ a0, IsSent P ti nm (n, d) → W.var? P n = some #[.iface tp (.pointer (some a0))] ∧ MemPlace.cell a0.block a0.off ∈ MemPlace.row ⟨g0, 0, none⟩ cs0.size ++ p0 := by
      by_cases hse : IsSent P ti nm (n, d)
      · obtain ⟨⟨text, hd⟩, g, hg, ht⟩ := hse
        simp only at hd hg ht
        subst hd
        obtain rfl := Option.some.inj (hg.symm.trans hg0)
        obtain rfl := Option.some.inj (ht.symm.trans ht0)
        obtain ⟨l0⟩ := cs0
        have hsz : ∀ u v, l0 = [.iface u v] → Value.okWide P W .any 0 u v := fun u v e => by
          subst e
          exact (hrows g 0 (by simp [MemPlace.row])).2 u v (by simpa using World.var?_cell hg hv0 0)
        obtain ⟨a0, s0, rfl, hc0, hs0, hz0, rfl⟩ := errorString_of_trod hi hrow hp he hft hfo hs hc hcs hd0 hsz
        exact ⟨a0, fun _ => ⟨hv0, List.mem_append_right _ (by simp [MemPlace.row])⟩⟩
      · exact ⟨⟨0, 0, none⟩, fun h => absurd h hse⟩
    obtain ⟨a0, ha0⟩ := head
    refine ⟨fun i => match i with | 0 => a0 | i + 1 => A i, fun i x hx hse => ?_, fun i j x y hx hy hsx hsy hij => ?_⟩
    · match i, hx with
      | 0, hx =>
        simp at hx
        subst hx
        obtain ⟨k1, k2⟩ := ha0 hse
        exact ⟨k1, List.mem_append_left _ k2, (hrows _ _ (List.mem_append_left _ k2)).1⟩
      | i + 1, hx =>
        obtain ⟨k1, k2, k3⟩ := h1 i x (by simpa using hx) hse
        exact ⟨k1, hq _ k2, k3⟩
    · have far : ∀ k z, L[k]? = some z → IsSent P ti nm z → IsSent P ti nm (n, d) → a0 ≠ A k := fun k z hz hsz hs0 he => by
        have k1 := (ha0 hs0).2
        have k2 := (h1 k z hz hsz).2.1
        rw [← he] at k2
        exact hnq.2.2 _ k1 _ k2 rfl
      match i, j, hx, hy, hij with
      | 0, 0, _, _, hij => exact absurd rfl hij
      | 0, j + 1, hx, hy, _ =>
        simp at hx
        subst hx
        exact far j y (by simpa using hy) hsy hsx
      | i + 1, 0, hx, hy, _ =>
        simp at hy
        subst hy
        exact fun e => far i x (by simpa using hx) hsx hsy e.symm
      | i + 1, j + 1, hx, hy, hij => exact h2 i j x y (by simpa using hx) (by simpa using hy) hsx hsy (fun e => hij (by rw [e]))
end
end Go.Proofs.YtndgbhgalablfaaDoor
