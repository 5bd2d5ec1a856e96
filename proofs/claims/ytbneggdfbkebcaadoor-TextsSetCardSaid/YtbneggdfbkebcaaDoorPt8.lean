/- The walk of the document's Sorted. -/
import Derived.Test.YtbneggdfbkebcaaDoorVl
import Derived.Test.YtbneggdfbkebcaaDoorPt2
import Derived.Test.YtbneggdfbkebcaaDoorCa2
import Derived.Test.YtbneggdfbkebcaaDoorChecked
import Derived.WalkKit
import Derived.BigQuiet
import Derived.Lib.Hide
namespace Go.Proofs.YtbneggdfbkebcaaDoor
open Go.RowKit
set_option linter.unusedVariables false

/-- From w on by growth; v is the call's own and holds xs. -/
structure FrV (w w' : World) (v : Value) (xs : List Value) : Prop where
  grown : w.grownBy w' none
  own : w'.ownsRow w.heap.size 24 1 v xs.length xs
theorem FrV.alloc {w w' : World} {v : Value} {xs : List Value} (h : FrV w w' v xs) (o : Obj) : FrV w (w'.alloc o) v xs := ⟨grown_alloc h.grown o, h.own.alloc o⟩
theorem FrV.step {w b c : World} {v v' : Value} {xs ys : List Value} {n' : Nat} (h : FrV w b v xs) (ho : c.ownsRow w.heap.size 24 1 v' n' ys) (hg : b.grownBy c v.ownBlock) : FrV w c v' ys := by
  have hn : n' = ys.length := by have := ho.1; omega
  subst hn
  exact ⟨grown_own h.grown h.own (Nat.le_refl _) hg, ho⟩
theorem FrV.more {w b c : World} {v : Value} {xs : List Value} (h : FrV w b v xs) (hg : b.grownBy c none) : FrV w c v xs := ⟨grown_trans h.grown hg, h.own.kept hg (Classical.em _)⟩
theorem FrV.first (w : World) : FrV w (w.alloc (.cells #[] 24)) (.slice (some ⟨w.heap.size, 0, none⟩) 0 0) [] :=
  ⟨World.grownBy_alloc _ _ _, World.ownsRow_lit w #[] 0 (Nat.le_refl _) (by unfold maxLen; omega) (by simp)⟩
theorem FrV.whole {w w' : World} {v : Value} {xs : List Value} (h : FrV w w' v xs) : Whole0 v := by
  rcases h.own.2 with ⟨rfl, h0⟩ | ⟨g, cap, cur, rfl, _⟩
  · intro n c e; cases e; exact ⟨rfl, rfl⟩
  · exact Whole0.some _ _ _
theorem own_base {w : World} {b1 b2 : Nat} {e : TypeId} {s : Nat} {v : Value} {n : Nat} {xs : List Value} (h : w.ownsRow b2 e s v n xs) (hb : b1 ≤ b2) : w.ownsRow b1 e s v n xs := by
  refine ⟨h.1, ?_⟩
  rcases h.2 with h1 | ⟨g, cap, cur, h1, h2, h3⟩
  · exact .inl h1
  · exact .inr ⟨g, cap, cur, h1, Nat.le_trans hb h2, h3⟩
theorem one_of {w : World} {y : Value} {l : List Nat} (h : Bytes w y l) : ∀ u ∈ [y], u.oneCell' = true := fun u hu => by
  rw [List.mem_singleton] at hu
  subst hu
  obtain ⟨_, a, _, _, c, rfl, _⟩ := h
  rfl
namespace Pt
theorem sort_take (L : List (List Nat)) {j : Nat} (hj : j < L.length) : L.take (j + 1) = L.take j ++ [L.getD j []] := by
  rw [List.take_add_one, List.getElem?_eq_getElem hj, List.getD_eq_getElem?_getD, List.getElem?_eq_getElem hj]; rfl
theorem sort_in {S : List (List Nat)} {t : Nat} (ht : t ≤ S.length) {x : List Nat} (h1 : t = 0 ∨ ∃ t', t = t' + 1 ∧ le (S.getD t' []) x) (h2 : ∀ i, t ≤ i → i < S.length → Cal.lex x (S.getD i []) = true) {l : List (List Nat)} (hS : sort l = S) : sort (l ++ [x]) = S.take t ++ x :: S.drop t := by
  refine sort_snoc (by rw [List.take_append_drop]; exact hS) ?_ ?_
  · rcases h1 with h | ⟨t', h, hle⟩
    · subst h; exact .inl rfl
    · subst h
      exact .inr ⟨S.take t', S.getD t' [], sort_take S (by omega), hle⟩
  · intro y hy
    obtain ⟨i, hi, rfl⟩ := List.getElem_of_mem hy
    rw [List.length_drop] at hi
    have := h2 (t + i) (by omega) (by omega)
    rw [List.getD_eq_getElem?_getD, List.getElem?_eq_getElem (by omega)] at this
    rw [List.getElem_drop]
    exact this
end Pt

set_option maxRecDepth 100000 in
set_option maxHeartbeats 2000000 in
theorem refSorted_any (a : Option Addr) (n c : Nat) (ys : List Value) (L : List (List Nat)) (w : World) (hV : Vals w (.slice a n c) ys) (hE : Each w ys L) (hn : n ≤ 100000) :
    Calls Tryd.prog 22 #[.slice a n c] w fun e w' => ∃ u xs, e = .returned u ∧ FrV w w' u xs ∧ Each w' xs (Pt.sort L) := by
  have hln : L.length = n := by rw [← hE.len]; exact hV.cap.1.symm
  obtain ⟨a1, sb, so, c1, he, hc, ha, hcell⟩ := hV
  simp only [Value.slice.injEq] at he
  obtain ⟨rfl, hny, rfl⟩ := he
  rw [← hny] at hc ha
  have HE := Lib.hid hE
  have HA : Hid (∀ j, j < n → a = some ⟨sb, so, none⟩ ∧ sb < w.heap.size) := Lib.hid (fun j hj => ha (by omega))
  have HIn : Hid (∀ W, w.grownBy W none → ∀ j, j < n → ∃ y, W.cell? ⟨sb, so + j, none⟩ = some y ∧ Bytes W y (L.getD j []) ∧ Whole0 y) := Lib.hid (fun W hW j hj => by
    obtain ⟨y, h1, h2, h3⟩ := hE.at_ j (by omega)
    exact ⟨y, by rw [World.cell?_of_block (hW.block sb (ha (by omega)).2 (by simp))]; exact hcell j y h1, h2.grown hW, h3⟩)
  have HTk : Hid (∀ j, j < n → L.take (j + 1) = L.take j ++ [L.getD j []]) := Lib.hid (fun j hj => Pt.sort_take L (by omega))
  have HLn : Hid (∀ j, j ≤ n → (Pt.sort (L.take j)).length = j) := Lib.hid (fun j hj => by rw [Pt.sort_len, List.length_take]; omega)
  have HEnd : Hid (Pt.sort (L.take n) = Pt.sort L) := Lib.hid (by rw [List.take_of_length_le (by omega)])
  have F0 := Lib.hid (FrV.first w)
  have hi1 : ((Tryd.prog.info? 24).map (fun i => (i.zero, i.size, i.bytes))) = some (some (.slice none 0 0), 1, 24) := by kernel_rfl
  have HI1 := Lib.hid hi1
  clear hE ha hcell hln hny hi1
  go_enter Tryd.func22, Tryd.ntmps22
  go_wp2
  go_loopw [3, 11] (fun o i wr => ∃ (j : Nat) (xs : List Value), j ≤ n ∧ i = .int .i64 (j : Int) ∧ FrV w wr o xs ∧ Each wr xs (Pt.sort (L.take j))) (fun _ i _ => n - (intOf i).toNat)
  case atStart => exact ⟨0, [], Nat.zero_le _, rfl, F0.out, trivial⟩
  case round =>
    obtain ⟨j, xs, hj, rfl, hF, hEa⟩ := hrel
    have HF := Lib.hid hF
    have HEa := Lib.hid hEa
    obtain ⟨ao, go, co, ho, hco, _, hao, hcl⟩ := ownsRow_form hF.own
    subst ho
    have hxl : xs.length = j := by rw [hEa.len, HLn.out j hj]
    have HVs := Lib.hid (Vals.own hF.own)
    rw [hxl] at HF HVs hco hao hcl ⊢
    have HCl := Lib.hid hcl
    clear hcl
    by_cases hjn : j < n
    · obtain ⟨rfl, _⟩ := HA.out j hjn
      obtain ⟨y, hy1, hy2, hy3⟩ := HIn.out wr hF.grown j hjn
      obtain ⟨ya, yl, yc, rfl⟩ : ∃ a l c, y = .slice a l c := by
        obtain ⟨_, a, _, _, c, rfl, _⟩ := hy2
        exact ⟨_, _, _, rfl⟩
      have HY2 := Lib.hid hy2
      have HY3 := Lib.hid hy3
      obtain ⟨S, hS⟩ : ∃ S, S = Pt.sort (L.take j) := ⟨_, rfl⟩
      have hSl : S.length = j := by rw [hS]; exact HLn.out j hj
      obtain ⟨x, hx⟩ : ∃ x, x = L.getD j [] := ⟨_, rfl⟩
      have HNx : Hid (∀ t, t ≤ S.length → (t = 0 ∨ ∃ t', t = t' + 1 ∧ Pt.le (S.getD t' []) x) → (∀ i, t ≤ i → i < S.length → Cal.lex x (S.getD i []) = true) → Pt.sort (L.take (j + 1)) = S.take t ++ x :: S.drop t) := Lib.hid (fun t ht h1 h2 => by
        rw [HTk.out j hjn, ← hx]
        exact Pt.sort_in ht h1 h2 hS.symm)
      rw [← hS] at HEa
      rw [← hx] at HY2
      have HSl := Lib.hid hSl
      have c2 : ∀ m, (convert 24 9 (.slice ya yl yc)).run Tryd.prog (wr.drewN m) = .ok (.string (strOf x)) (wr.drewN m) := fun m => conv_bytes (HY2.out.grown (grown_drewN (grown_refl _ _) m)) _ 5 _ Tryd.underlying24 Tryd.underlying5 Tryd.underlying9
      have HC2 := Lib.hid c2
      have hxlt := HY2.out.lt
      have HXl := Lib.hid hxlt
      have HHo := Lib.hid hao
      clear hF hEa hy2 hy3 hS hx hSl hxl c2 hxlt hao
      go_wp2
      obtain ⟨wo, hwo⟩ : ∃ wo : World, wo = wr := ⟨_, rfl⟩
      rw [← hwo] at HF HEa HVs HY2 HC2 HHo HCl hy1 ⊢
      clear hwo
      go_loopw [6] (fun k wr => ∃ t : Nat, t ≤ j ∧ k = .int .i64 (t : Int) ∧ (∃ q, wr = wo.drewN q) ∧ ∀ i, t ≤ i → i < j → Cal.lex x (S.getD i []) = true) (fun k _ => (intOf k).toNat)
      case atStart => exact ⟨j, Nat.le_refl _, rfl, ⟨0, rfl⟩, fun i h1 h2 => absurd h1 (by omega)⟩
      case round =>
        obtain ⟨t, ht, rfl, ⟨q, rfl⟩, hbe⟩ := hrel
        have HBe := Lib.hid hbe
        clear hbe
        have c2 := HC2.out
        by_cases ht0 : 0 < t
        · obtain ⟨p, hp⟩ : ∃ p, p = t - 1 := ⟨_, rfl⟩
          have hpi : (t : Int) - 1 = (p : Int) := by omega
          have hpj : p < j := by omega
          have hpt : p + 1 = t := by omega
          clear hp
          obtain ⟨u, hu1, hu2, hu3⟩ := HEa.out.at_ p (by rw [HSl.out]; omega)
          obtain ⟨rfl, _⟩ := HHo.out (by omega)
          have hcu : wo.cell? ⟨go, p, none⟩ = some u := (HCl.out p (by omega)).trans hu1
          have hlex := str_less (strOf (S.getD p [])) (strOf x)
          rw [strL_strOf hu2.lt, strL_strOf HXl.out] at hlex
          have hbe2 := strOf_beq hu2.lt HXl.out
          have hcx : (!Op.bytesLess (strOf (S.getD p [])).toList (strOf x).toList && !((strOf (S.getD p [])).toList == (strOf x).toList)) = Cal.lex x (S.getD p []) := by
            rw [hlex, hbe2]
            rcases Pt.lex_tri x (S.getD p []) with h | h | h
            · have h2 : Cal.lex (S.getD p []) x = false := Pt.le_of_lt h
              have h3 : S.getD p [] ≠ x := fun e => by rw [e, Pt.lex_irr] at h; cases h
              rw [h, h2, decide_eq_false h3]; rfl
            · rw [← h, Pt.lex_irr, decide_eq_true rfl]; rfl
            · have h2 : Cal.lex x (S.getD p []) = false := Pt.le_of_lt h
              rw [h, h2]; rfl
          have c1 : ∀ m, (convert 24 9 u).run Tryd.prog (wo.drewN m) = .ok (.string (strOf (S.getD p []))) (wo.drewN m) := fun m => conv_bytes (hu2.grown (grown_drewN (grown_refl _ _) m)) _ 5 _ Tryd.underlying24 Tryd.underlying5 Tryd.underlying9
          generalize strOf (S.getD p []) = s1 at *
          generalize strOf x = s2 at *
          have HPt := Lib.hid hpt
          clear hu1 hu2 hu3 hlex hbe2 hpt
          by_cases hlt : Cal.lex x (S.getD p []) = true
          · rw [hlt] at hcx
            have HL := Lib.hid hlt
            have HCx := Lib.hid hcx
            clear hlt hcx
            go_wp2
            go_quiet (fail)
            simp only [HCx.out]
            go_wp2
            go_roundw
            case rel => exact ⟨p, by omega, by go_num, ⟨_, rfl⟩, fun i h1 h2 => by
              rcases Nat.lt_or_ge p i with h | h
              · exact HBe.out i (by have := HPt.out; omega) h2
              · obtain rfl : i = p := by omega
                exact HL.out⟩
            case measure => have := HPt.out; simp [intOf]; omega
          · have hlf : Cal.lex x (S.getD p []) = false := by rw [← Bool.not_eq_true]; exact hlt
            rw [hlf] at hcx
            have HCx := Lib.hid hcx
            have HSo := Lib.hid (HNx.out t (by rw [HSl.out]; exact ht) (.inr ⟨p, HPt.out.symm, hlf⟩) (fun i h1 h2 => HBe.out i h1 (by rw [← HSl.out]; exact h2)))
            clear hlt hlf hcx
            go_wp2
            go_quiet (fail)
            simp only [HCx.out]
            obtain ⟨w3, hw3⟩ : ∃ w3, w3 = (wo.drewN q).drewN nq := ⟨_, rfl⟩
            have hg3 : wo.grownBy w3 none := by rw [hw3]; exact grown_drewN (grown_drewN (grown_refl _ _) _) _
            rw [← hw3]
            have HF3 := Lib.hid (HF.out.more hg3)
            have HE3 := Lib.hid (HEa.out.grown hg3)
            have hv3 := HVs.out.grown hg3
            have HXs : Hid (xs.length = j) := Lib.hid hv3.cap.1.symm
            have HY := Lib.hid (HY2.out.grown hg3)
            have F1 := Lib.hid (FrV.first w3)
            have HVT := Lib.hid (hv3.to t ht)
            have HVD := Lib.hid (hv3.from t ht)
            have HWT := Lib.hid (HF.out.whole.to t ht)
            have HWD := Lib.hid (HF.out.whole.from t)
            have H1T := Lib.hid (HE3.out.take t).one
            have H1D := Lib.hid (HE3.out.drop t).one
            have htc : t ≤ co := by omega
            clear hw3 hg3 hv3 hy1
            go_wp2_with (first
              | (at_builtin; refine wpList_appV (by rfl) (.tmp 32) (.tmp 35) 44 (by rfl) w3.heap.size 24 (.slice none 0 0) 24 Tryd.underlying44 HI1.out rfl (by decide) _ _ _ (by rfl) F1.out.own _ (xs.take t) (by rfl) (HVT.out.grown F1.out.grown) HWT.out H1T.out (by have := HXs.out; simp; omega) (by rw [alloc_size]; omega) ?_; intro v4 w4 ho4 hg4 hb4; have F4 := Lib.hid (F1.out.step ho4 hg4); clear ho4 hg4 hb4)
              | (at_builtin; refine wpList_appV (by rfl) (.tmp 37) (.tmp 39) 44 (by rfl) w3.heap.size 24 (.slice none 0 0) 24 Tryd.underlying44 HI1.out rfl (by decide) _ _ _ (by rfl) (F4.out.alloc _).own _ [.slice ya yl yc] (by rfl) (Vals.lit (xs := [.slice ya yl yc]) (alloc_at w4 _)) (Whole0.some _ _ _) (one_of HY.out) (by have := HXs.out; simp; omega) (by have := F4.out.grown.size; rw [alloc_size]; omega) ?_; intro v5 w5 ho5 hg5 hb5; have F5 := Lib.hid ((F4.out.alloc _).step ho5 hg5); clear ho5 hg5 hb5)
              | (at_builtin; refine wpList_appV (by rfl) (.tmp 41) (.tmp 44) 44 (by rfl) w3.heap.size 24 (.slice none 0 0) 24 Tryd.underlying44 HI1.out rfl (by decide) _ _ _ (by rfl) F5.out.own _ (xs.drop t) (by rfl) (HVD.out.grown F5.out.grown) HWD.out H1D.out (by have := HXs.out; simp; omega) F5.out.grown.size ?_; intro v6 w6 ho6 hg6 hb6; have F6 := Lib.hid (F5.out.step ho6 hg6); clear ho6 hg6 hb6))
            go_roundw
            case rel => exact ⟨j + 1, _, by omega, by go_num, ⟨grown_trans HF3.out.grown F6.out.grown, own_base F6.out.own HF3.out.grown.size⟩, by
              rw [HSo.out]
              have e := ((HE3.out.take t).grown F6.out.grown).append (Each.append (L := [x]) (M := S.drop t) (xs := [.slice ya yl yc]) (ys := xs.drop t) ⟨⟨HY.out.grown F6.out.grown, HY3.out⟩, trivial⟩ ((HE3.out.drop t).grown F6.out.grown))
              simpa [List.append_assoc] using e⟩
            case measure => simp [intOf]; omega
        · have HSo := Lib.hid (HNx.out t (by rw [HSl.out]; exact ht) (.inl (by omega)) (fun i h1 h2 => HBe.out i h1 (by rw [← HSl.out]; exact h2)))
          go_wp2
          go_quiet (fail)
          obtain ⟨w3, hw3⟩ : ∃ w3, w3 = (wo.drewN q).drewN nq := ⟨_, rfl⟩
          have hg3 : wo.grownBy w3 none := by rw [hw3]; exact grown_drewN (grown_drewN (grown_refl _ _) _) _
          rw [← hw3]
          have HF3 := Lib.hid (HF.out.more hg3)
          have HE3 := Lib.hid (HEa.out.grown hg3)
          have hv3 := HVs.out.grown hg3
          have HXs : Hid (xs.length = j) := Lib.hid hv3.cap.1.symm
          have HY := Lib.hid (HY2.out.grown hg3)
          have F1 := Lib.hid (FrV.first w3)
          have HVT := Lib.hid (hv3.to t ht)
          have HVD := Lib.hid (hv3.from t ht)
          have HWT := Lib.hid (HF.out.whole.to t ht)
          have HWD := Lib.hid (HF.out.whole.from t)
          have H1T := Lib.hid (HE3.out.take t).one
          have H1D := Lib.hid (HE3.out.drop t).one
          have htc : t ≤ co := by omega
          clear hw3 hg3 hv3 hy1
          go_wp2_with (first
            | (at_builtin; refine wpList_appV (by rfl) (.tmp 32) (.tmp 35) 44 (by rfl) w3.heap.size 24 (.slice none 0 0) 24 Tryd.underlying44 HI1.out rfl (by decide) _ _ _ (by rfl) F1.out.own _ (xs.take t) (by rfl) (HVT.out.grown F1.out.grown) HWT.out H1T.out (by have := HXs.out; simp; omega) (by rw [alloc_size]; omega) ?_; intro v4 w4 ho4 hg4 hb4; have F4 := Lib.hid (F1.out.step ho4 hg4); clear ho4 hg4 hb4)
            | (at_builtin; refine wpList_appV (by rfl) (.tmp 37) (.tmp 39) 44 (by rfl) w3.heap.size 24 (.slice none 0 0) 24 Tryd.underlying44 HI1.out rfl (by decide) _ _ _ (by rfl) (F4.out.alloc _).own _ [.slice ya yl yc] (by rfl) (Vals.lit (xs := [.slice ya yl yc]) (alloc_at w4 _)) (Whole0.some _ _ _) (one_of HY.out) (by have := HXs.out; simp; omega) (by have := F4.out.grown.size; rw [alloc_size]; omega) ?_; intro v5 w5 ho5 hg5 hb5; have F5 := Lib.hid ((F4.out.alloc _).step ho5 hg5); clear ho5 hg5 hb5)
            | (at_builtin; refine wpList_appV (by rfl) (.tmp 41) (.tmp 44) 44 (by rfl) w3.heap.size 24 (.slice none 0 0) 24 Tryd.underlying44 HI1.out rfl (by decide) _ _ _ (by rfl) F5.out.own _ (xs.drop t) (by rfl) (HVD.out.grown F5.out.grown) HWD.out H1D.out (by have := HXs.out; simp; omega) F5.out.grown.size ?_; intro v6 w6 ho6 hg6 hb6; have F6 := Lib.hid (F5.out.step ho6 hg6); clear ho6 hg6 hb6))
          go_roundw
          case rel => exact ⟨j + 1, _, by omega, by go_num, ⟨grown_trans HF3.out.grown F6.out.grown, own_base F6.out.own HF3.out.grown.size⟩, by
            rw [HSo.out]
            have e := ((HE3.out.take t).grown F6.out.grown).append (Each.append (L := [x]) (M := S.drop t) (xs := [.slice ya yl yc]) (ys := xs.drop t) ⟨⟨HY.out.grown F6.out.grown, HY3.out⟩, trivial⟩ ((HE3.out.drop t).grown F6.out.grown))
            simpa [List.append_assoc] using e⟩
          case measure => simp [intOf]; omega
    · obtain rfl : j = n := by omega
      rw [HEnd.out] at hEa
      have HEe := Lib.hid hEa
      clear hF hEa hao
      go_wp2
      go_ret
      exact ⟨_, xs, rfl, by rw [← hxl] at HF; rw [← hxl]; exact HF.out, HEe.out⟩
end Go.Proofs.YtbneggdfbkebcaaDoor
