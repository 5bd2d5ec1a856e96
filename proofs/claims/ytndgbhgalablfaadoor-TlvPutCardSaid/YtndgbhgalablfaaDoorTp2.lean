/- The walk of tlv's Put. -/
import Derived.Test.YtndgbhgalablfaaDoorTp1
namespace Go.Proofs.YtndgbhgalablfaaDoor
open Go.RowKit

theorem ownsRow_low {w : World} {base base' : Nat} {e : TypeId} {size : Nat} {v : Value} {n : Nat} {xs : List Value} (h : w.ownsRow base' e size v n xs) (hb : base ≤ base') : w.ownsRow base e size v n xs := by
  refine ⟨h.1, ?_⟩
  rcases h.2 with h1 | ⟨g, cap, cur, h1, h2, h3⟩
  · exact .inl h1
  · exact .inr ⟨g, cap, cur, h1, Nat.le_trans hb h2, h3⟩
theorem FrW.of {w w1 w' : World} {v : Value} {l : List Nat} (h : FrW w1 w' v l) (hg : w.grownBy w1 none) : FrW w w' v l := ⟨grown_trans hg h.grown, ownsRow_low h.own hg.size⟩
/-- What Put answers. -/
def PutPost (A : Nat → Addr) (w w' : World) (t : Int) (l : List Nat) (e : Ending) : Prop :=
  if Tl.known t = false then e = .returned (.tuple #[.slice none 0 0, errV A 5])
  else if 65530 < l.length then e = .returned (.tuple #[.slice none 0 0, errV A 3])
  else ∃ u, e = .returned (.tuple #[u, .nilIface]) ∧ FrW w w' u (Tl.elem t.toNat l)

set_option maxRecDepth 100000 in
set_option maxHeartbeats 1000000 in
theorem put_any (A : Nat → Addr) (t : Int) (v : Value) (l : List Nat) (w : World) (hB : Bytes w v l) (h0 : Whole0 v) (hl : l.length ≤ 1099511620000) (hE : AllErrs w A) :
    Calls Tryd.prog 21 #[.agg #[.int .i64 t, v]] w fun e w' => PutPost A w w' t l e ∧ w.grownBy w' none := by
  have HED : Hid (∀ W, w.grownBy W none → W.cell? ⟨5, 0, none⟩ = some (errV A 5) ∧ W.cell? ⟨1, 0, none⟩ = some (errV A 3)) := Lib.hid (fun W hW => by
    have hEE := hE.grown hW
    have e5 := errs_at hEE 5 (by decide)
    have e3 := errs_at hEE 3 (by decide)
    simp only [errVars, List.getD_cons_zero, List.getD_cons_succ, Nat.add_one_sub_one] at e5 e3
    exact ⟨e5, e3⟩)
  have HK := Lib.hid (known_any t)
  have HB := Lib.hid hB
  have H0 := Lib.hid h0
  have hkn := fun h => Tl.known_nat t h
  obtain ⟨_, va, vsb, vso, vc, rfl, _⟩ := hB
  obtain ⟨n, hn⟩ : ∃ n, n = l.length := ⟨_, rfl⟩
  have HN := Lib.hid hn
  rw [← hn] at HB H0 hl ⊢
  clear hE h0 hn
  cases hk : Tl.known t with
  | false =>
    have HX : Hid (∀ e w', e = Ending.returned (.tuple #[.slice none 0 0, errV A 5]) → PutPost A w w' t l e) := Lib.hid (fun e w' h => by unfold PutPost; rw [if_pos hk]; exact h)
    rw [hk] at HK
    have eT := fun o => (HED.out (w.alloc o) (World.grownBy_alloc _ _ _)).1
    clear hk hkn
    go_enter Tryd.func21, Tryd.ntmps21
    go_wp2_with (go_at_call 30; refine (HK.out _).mono ?_; rintro e w2 ⟨rfl, rfl⟩)
    go_quiet (fail)
    go_wp2
    go_ret2
    exact ⟨HX.out _ _ rfl, grown_drewN (World.grownBy_alloc _ _ _) _⟩
  | true =>
    have hkt := hkn hk
    by_cases hbig : 65530 < n
    · have HX : Hid (∀ e w', e = Ending.returned (.tuple #[.slice none 0 0, errV A 3]) → PutPost A w w' t l e) := Lib.hid (fun e w' h => by unfold PutPost; rw [if_neg (by rw [hk]; simp), if_pos (by rw [← HN.out]; exact hbig)]; exact h)
      rw [hk] at HK
      have eL := fun o => (HED.out (w.alloc o) (World.grownBy_alloc _ _ _)).2
      have d1 : decide ((65530 : Int) < (n : Int)) = true := decide_eq_true (by omega)
      clear hk hkn hbig
      go_enter Tryd.func21, Tryd.ntmps21
      go_wp2_with (go_at_call 30; refine (HK.out _).mono ?_; rintro e w2 ⟨rfl, rfl⟩)
      go_quiet (fail)
      go_wp2
      go_ret2
      exact ⟨HX.out _ _ rfl, grown_drewN (World.grownBy_alloc _ _ _) _⟩
    · obtain ⟨k, rfl⟩ : ∃ k : Nat, t = k := ⟨t.toNat, by omega⟩
      have HX : Hid (∀ e w', (∃ u, e = Ending.returned (.tuple #[u, .nilIface]) ∧ FrW w w' u (Tl.elem k l)) → PutPost A w w' (k : Int) l e) := Lib.hid (fun e w' h => by unfold PutPost; rw [if_neg (by rw [hk]; simp), if_neg (by rw [← HN.out]; exact hbig), Int.toNat_natCast]; exact h)
      rw [hk] at HK
      have hk256 : k < 256 := by omega
      have hsz : Tl.size (n : Int) = 2 + Tl.more n + n := by rw [Tl.size, if_pos (by omega), Int.toNat_natCast]
      have hm4 := Tl.more_le n
      have HS := Lib.hid (size_anyT (n : Int))
      have hszb : Hid (Tl.size (n : Int) ≤ 70000) := Lib.hid (by omega)
      have HLn : Hid ((Tl.lenB n).length ≤ 5) := Lib.hid (by rw [Tl.lenB_len]; omega)
      have HEl : Hid (Tl.elem k l = [k] ++ Tl.lenB n ++ l) := Lib.hid (by rw [Tl.elem, HN.out]; rfl)
      have HAL := Lib.hid (fun v base xs w a b c => appLen_any v n base xs w a b c (by omega))
      generalize Tl.size (n : Int) = sz at *
      generalize Tl.lenB n = ln at *
      have d1 : decide ((65530 : Int) < (n : Int)) = false := decide_eq_false (by omega)
      have hn' : n ≤ 65530 := by omega
      obtain ⟨iT, i1, i2, i3, i4⟩ := info_parts (P := Tryd.prog) (e := 5) (z := .int .u8 0) (size := 1) (bytes := 1) (by kernel_rfl)
      have Hi1 := Lib.hid i1
      have Hi2 := Lib.hid i2
      have Hi3 := Lib.hid i3
      have Hi4 := Lib.hid i4
      have Hn' := Lib.hid hn'
      clear i1 i2 i3 i4 hk hkn hkt hbig hsz hm4 hn' hl
      obtain ⟨w1, hw1⟩ : ∃ w1, w1 = w.alloc (.cells #[.int .i64 k, .slice va n vc] 46) := ⟨_, rfl⟩
      have G1 : Hid (w.grownBy w1 none) := Lib.hid (by rw [hw1]; exact World.grownBy_alloc _ _ _)
      have hb1 : w1.heap[w.heap.size]? = some (.cells #[.int .i64 k, .slice va n vc] 46 (0, 0)) := by rw [hw1]; exact alloc_at _ _
      obtain ⟨g, hg⟩ : ∃ g, g = w.heap.size := ⟨_, rfl⟩
      rw [← hg] at hb1
      have HBx : Hid (∀ W, w1.grownBy W none → W.cell? ⟨g, 0, none⟩ = some (.int .i64 (k : Int)) ∧ W.cell? ⟨g, 1, none⟩ = some (.slice va n vc)) := Lib.hid (fun W hW => by
        have hbW := (hW.block _ (blk_lt hb1) (by simp)).trans hb1
        exact ⟨cell_blk hbW 0 rfl, cell_blk hbW 1 rfl⟩)
      have HW1 := Lib.hid hw1
      have HG := Lib.hid hg
      have s0 := (HBx.out w1 (grown_refl _ _)).1
      have s1 := (HBx.out w1 (grown_refl _ _)).2
      have HSz := Lib.hid (show sz ≤ 70000 from hszb.out)
      clear hw1 hg hb1
      go_enter Tryd.func21, Tryd.ntmps21
      go_wp2_with (first
        | (go_at_call 30; rw [← HW1.out, ← HG.out]; refine (HK.out _).mono ?_; rintro e w2 ⟨rfl, hw2⟩; have hw2' := hw2.symm; subst hw2'; clear hw2)
        | (go_at_call 25; refine (HS.out _).mono ?_; rintro e w2 ⟨rfl, hw2⟩; have hw2' := hw2.symm; subst hw2'; clear hw2)
        | (refine wpList_make_own _ (by rfl) (.const (.int .i64 0)) (.tmp 18) 22 (by rfl) w1.heap.size 5 iT (.int .u8 0) 1 Tryd.underlying22 Hi1.out Hi2.out Hi3.out .i64 .i64 _ sz (by rfl) (by rfl) (by go_num) (by rw [Hi4.out]; have := HSz.out; omega) (by have := HSz.out; unfold maxLen; omega) (Nat.le_refl _) ?_; intro w3 ho3 hg3; have F3 := Lib.hid (FrW.mk (l := []) hg3 ho3); have s30 := (HBx.out w3 hg3).1; have s31 := (HBx.out w3 hg3).2; clear ho3 hg3)
        | (at_builtin; refine wpList_app1 (by rfl) (.tmp 20) (.tmp 24) 22 (by rfl) w1.heap.size 5 (.int .u8 0) 1 Tryd.underlying22 (by kernel_rfl) rfl (by decide) _ 0 [] (by rfl) (F3.out.own.alloc _) ⟨_, 0, none⟩ _ (by rfl) (cell_blk (alloc_at _ _) 0 rfl) rfl (by omega) (by have := F3.out.le; rw [alloc_size]; omega) ?_; intro v4 w4 ho4 hg4; have F4 := Lib.hid ((F3.out.alloc _).step (l' := [k]) ho4 hg4 rfl); have s40 := (HBx.out w4 F4.out.grown).1; have s41 := (HBx.out w4 F4.out.grown).2; clear ho4 hg4)
        | (go_at_call 41; refine (HAL.out v4 w1.heap.size [k] w4 F4.out.own F4.out.le (by simp)).mono ?_; rintro e w5 ⟨v5, rfl, hR⟩; have F5 := Lib.hid (F4.out.step (l' := [k] ++ ln) hR.own hR.grown rfl); have s50 := (HBx.out w5 F5.out.grown).1; have s51 := (HBx.out w5 F5.out.grown).2; clear hR)
        | (at_builtin; refine wpList_appB (by rfl) (.tmp 31) (.tmp 33) 22 (by rfl) w1.heap.size 5 (.int .u8 0) 1 Tryd.underlying22 (by kernel_rfl) rfl (by decide) _ _ _ (by rfl) F5.out.own _ l (by rfl) (HB.out.grown (grown_trans G1.out F5.out.grown)) H0.out (by rw [List.length_append, ← HN.out]; have := HLn.out; have := Hn'.out; simp; omega) F5.out.le ?_; intro v6 w6 ho6 hg6; have F6 := Lib.hid (F5.out.step (l' := [k] ++ ln ++ l) ho6 hg6 (cellsL_append _ _).symm); clear ho6 hg6))
      go_ret2
      exact ⟨HX.out _ _ ⟨_, rfl, by rw [HEl.out]; exact F6.out.of G1.out⟩, grown_trans G1.out F6.out.grown⟩
end Go.Proofs.YtndgbhgalablfaaDoor
