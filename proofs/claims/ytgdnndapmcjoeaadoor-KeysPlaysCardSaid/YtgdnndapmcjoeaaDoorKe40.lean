import Derived.Test.YtgdnndapmcjoeaaDoorKe32
import Derived.Shelf.SlMaps.Clone
import Derived.Deep.RegionHeld3
namespace Go.Proofs.YtgdnndapmcjoeaaDoor
open Go.RowKit Go.Maps
open Go.ChangeMaps (setBlock)
set_option linter.unusedVariables false
/-- A map's copy. -/
def CloneOut (w : World) (L : List (Value × Value)) (w' : World) (e : Ending) : Prop :=
  ∃ o, e = .returned (.map o) ∧ w.grownBy w' none ∧ MapO w' o L ∧ ∀ k, o = some k → w.heap.size ≤ k ∧ k < w'.heap.size
set_option maxRecDepth 100000 in
set_option maxHeartbeats 400000 in
theorem cloneK (w : World) (o : Option Nat) (L : List (Value × Value)) (h : MapO w o L) : Calls Tryd.prog 46 #[.map o] w fun e w' => CloneOut w L w' e := by
  have hq := fun w => run_eql_map_nil_sl (P := Tryd.prog) w 80 _ _ o mapKT
  cases o with
  | none =>
    go_enter Tryd.func46, Tryd.ntmps46
    go_wp2
    go_ret
    exact ⟨none, rfl, grown_refl _ _, h, fun k hk => by cases hk⟩
  | some b =>
    have hlt := MapL.lt h
    obtain ⟨es, clock, hb, hL⟩ := h
    have HL := Lib.hid hL
    clear hL
    go_enter Tryd.func46, Tryd.ntmps46
    go_wp2
    rw [run_callFunc_extern Tryd.func61 (by kernel_rfl) (by kernel_rfl) (by kernel_rfl) (e := Extern.MapsClone.clone) (by kernel_rfl), run_maps_clone_sl w 80 hb]
    simp only [Result.andThen]
    rw [Oper.upon_value]
    go_wp2
    rw [run_typeAssert_map_sl _ 80 20 _ _ _ mapKT]
    simp only [Result.andThen]
    rw [Oper.upon_value]
    go_wp2
    go_ret
    exact ⟨some w.heap.size, rfl, World.grownBy_alloc _ _ _, ⟨es, clock, alloc_at _ _, HL.out⟩, fun k hk => by have := Option.some.inj hk; rw [alloc_size]; omega⟩
set_option maxRecDepth 100000 in
set_option maxHeartbeats 400000 in
theorem cloneB (w : World) (o : Option Nat) (L : List (Value × Value)) (h : MapO w o L) : Calls Tryd.prog 47 #[.map o] w fun e w' => CloneOut w L w' e := by
  have hq := fun w => run_eql_map_nil_sl (P := Tryd.prog) w 81 _ _ o mapET
  cases o with
  | none =>
    go_enter Tryd.func47, Tryd.ntmps47
    go_wp2
    go_ret
    exact ⟨none, rfl, grown_refl _ _, h, fun k hk => by cases hk⟩
  | some b =>
    have hlt := MapL.lt h
    obtain ⟨es, clock, hb, hL⟩ := h
    have HL := Lib.hid hL
    clear hL
    go_enter Tryd.func47, Tryd.ntmps47
    go_wp2
    rw [run_callFunc_extern Tryd.func61 (by kernel_rfl) (by kernel_rfl) (by kernel_rfl) (e := Extern.MapsClone.clone) (by kernel_rfl), run_maps_clone_sl w 81 hb]
    simp only [Result.andThen]
    rw [Oper.upon_value]
    go_wp2
    rw [run_typeAssert_map_sl _ 81 20 _ _ _ mapET]
    simp only [Result.andThen]
    rw [Oper.upon_value]
    go_wp2
    go_ret
    exact ⟨some w.heap.size, rfl, World.grownBy_alloc _ _ _, ⟨es, clock, alloc_at _ _, HL.out⟩, fun k hk => by have := Option.some.inj hk; rw [alloc_size]; omega⟩
section
variable {A : Nat → Addr} {W0 w w' : World} {F : Nat → Prop} {b : Nat} {s : Rg}
set_option maxRecDepth 100000 in
set_option maxHeartbeats 400000 in
theorem pgSigned (h : PrG W0 F b s w) : Calls Tryd.prog 16 #[.pointer (some ⟨b, 0, none⟩)] w fun e w' => e = .returned (.int .i64 (s.bk.length : Nat)) ∧ w' = w := by
  obtain ⟨mk, mb, h1, h2, h3, h4, h5, h6⟩ := h.body
  have c1 := cell_blk h1 1 rfl
  obtain ⟨n, hn⟩ : ∃ n, n = s.bk.length := ⟨_, rfl⟩
  rw [← hn]
  cases mb with
  | none =>
    have h3 : s.bk.map (bookP s) = [] := h3
    have e : n = 0 := by rw [hn, List.map_eq_nil_iff.1 h3]; rfl
    subst e
    clear h h1 h2 h3 h4 h5 h6 hn
    go_enter Tryd.func16, Tryd.ntmps16
    go_wp2
    go_ret
    exact ⟨rfl, rfl⟩
  | some g =>
    have hlen : ∀ ty, (Builtin.len_ #[81] ty #[.map (some g)]).run Tryd.prog w = .ok (.int .i64 (n : Nat)) w := fun ty => by
      have := len_map (P := Tryd.prog) h3 mapET ty
      rw [List.length_map, ← hn] at this
      exact this
    clear h h1 h2 h3 h4 h5 h6 hn
    go_enter Tryd.func16, Tryd.ntmps16
    go_wp2
    go_ret
    exact ⟨rfl, rfl⟩
set_option maxRecDepth 100000 in
set_option maxHeartbeats 1000000 in
theorem pgCopy (h : PrG W0 F b s w) : Calls Tryd.prog 31 #[.pointer (some ⟨b, 0, none⟩)] w fun e w' => ∃ b' F', e = .returned (.pointer (some ⟨b', 0, none⟩)) ∧ w.grownBy w' none ∧ PrG W0 F' b' s w' ∧ ∀ k, F' k → w.heap.size ≤ k := by
  obtain ⟨mk, mb, h1, h2, h3, h4, h5, h6⟩ := h.body
  have HB := Lib.hid h1
  have HH := Lib.hid h
  have HS : Hid (∀ W, w.grownBy W none → W.cell? ⟨b, 0, none⟩ = some (.map mk) ∧ W.cell? ⟨b, 1, none⟩ = some (.map mb)) := Lib.hid (fun W hW => by
    have hb := (hW.block _ (blk_lt h1) (by simp)).trans h1
    exact ⟨cell_blk hb 0 rfl, cell_blk hb 1 rfl⟩)
  have HK : Hid (∀ W, w.grownBy W none → Calls Tryd.prog 46 #[.map mk] W fun e w' => CloneOut W (s.ks.map keyP) w' e) := Lib.hid (fun W hW => cloneK W mk _ (h2.of (fun k hk => hW.block k (by subst hk; exact MapL.lt h2) (by simp))))
  have HBk : Hid (∀ W, w.grownBy W none → Calls Tryd.prog 47 #[.map mb] W fun e w' => CloneOut W (s.bk.map (bookP s)) w' e) := Lib.hid (fun W hW => cloneB W mb _ (h3.of (fun k hk => hW.block k (by subst hk; exact MapL.lt h3) (by simp))))
  obtain ⟨s0, s1⟩ := HS.out w (grown_refl _ _)
  clear h h1 h2 h3 h4 h5 h6
  go_enter Tryd.func31, Tryd.ntmps31
  go_wp2
  go_region_held3 (fun w' => w'.cell? ⟨b, 0, none⟩ = some (.map mk) ∧ w'.cell? ⟨b, 1, none⟩ = some (.map mb))
    (first
      | exact HS.out _ (grown_drewN (grown_refl _ _) 1)
      | exact HS.out _ (grown_alloc K2.out _)
      | exact HS.out _ (grown_alloc K1.out _)
      | exact HS.out _ K2.out
      | exact HS.out _ K1.out)
    (first
      | (go_at_call 46; refine (HK.out _ (by first | exact grown_drewN (grown_refl _ _) 1 | exact K2.out)).mono ?_; rintro e w1 ⟨o1, rfl, hg1, hm1, hk1⟩; have K1 : Hid (w.grownBy w1 none) := Lib.hid (grown_trans (by first | exact grown_drewN (grown_refl _ _) 1 | exact K2.out) hg1); have G1 := Lib.hid hg1; have M1 := Lib.hid hm1; have Z1 := Lib.hid hk1; clear hg1 hm1 hk1)
      | (go_at_call 47; refine (HBk.out _ (by first | exact grown_drewN (grown_refl _ _) 1 | exact K1.out)).mono ?_; rintro e w2 ⟨o2, rfl, hg2, hm2, hk2⟩; have K2 : Hid (w.grownBy w2 none) := Lib.hid (grown_trans (by first | exact grown_drewN (grown_refl _ _) 1 | exact K1.out) hg2); have G2 := Lib.hid hg2; have M2 := Lib.hid hm2; have Z2 := Lib.hid hk2; clear hg2 hm2 hk2))
  · go_wp2
    go_ret
    have hb1 := blk_lt HB.out
    have d1 := G1.out.size
    have d2 := G2.out.size
    have e1 : ∀ k, o1 = some k → w.heap.size ≤ k ∧ k < w1.heap.size := Z1.out
    have e2 := Z2.out
    have e0 : w.heap.size ≤ w1.heap.size := d1
    have gm := grown_alloc G2.out (.cells #[.map o1, .map o2] 83)
    refine ⟨_, fun k => k = w2.heap.size ∨ o1 = some k ∨ o2 = some k, rfl, grown_alloc K2.out _, ⟨grown_trans HH.out.base (grown_alloc K2.out _), fun k hk => ?_, .inl rfl, HH.out.good, o1, o2, alloc_at _ _, M1.out.of (fun k hk => gm.block k (e1 k hk).2 (by simp)), M2.out.of (fun k hk => alloc_old _ _ _ (e2 k hk).2), fun k hk => ⟨.inr (.inl hk), ?_⟩, fun k hk => ⟨.inr (.inr hk), ?_⟩, fun k h1 h2 => ?_⟩, fun k hk => ?_⟩
    · have h0 := HH.out.base.size
      rw [alloc_size]
      rcases hk with rfl | hk | hk
      · omega
      · have := e1 k hk; omega
      · have := e2 k hk; omega
    · have := e1 k hk; omega
    · have := e2 k hk; omega
    · have := e1 k h1
      have := e2 k h2
      omega
    · rcases hk with rfl | hk | hk
      · omega
      · have := e1 k hk; omega
      · have := e2 k hk; omega
end
end Go.Proofs.YtgdnndapmcjoeaaDoor
