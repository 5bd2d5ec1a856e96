/- The walk of the law TextsSet, over what is asked of package texts. -/
import Derived.Test.YtbneggdfbkebcaaDoorPl0
import Derived.Test.YtbneggdfbkebcaaDoorPl1
import Derived.Test.YtbneggdfbkebcaaDoorPt8
import Derived.Test.YtbneggdfbkebcaaDoorSlt
import Derived.Deep.RegionHeld3
namespace Go.Proofs.YtbneggdfbkebcaaDoor
open Go.RowKit
set_option linter.unusedVariables false

/-- texts.Set answers as the document says, from w on. -/
def TxSet (w : World) : Prop := ∀ (a : Option Addr) (n c : Nat) (xs : List Value) (L : List (List Nat)) (W : World), n ≤ 20 → (∀ x ∈ L, x.length ≤ 100) → w.grownBy W none → Vals W (.slice a n c) xs → Each W xs L → Whole0 (.slice a n c) → Calls Tryd.prog 23 #[.slice a n c] W fun e w' => ∃ u, e = .returned u ∧ W.grownBy w' none ∧ Bytes w' u (Pt.sort L).flatten
def TxSorted (w : World) : Prop := ∀ (a : Option Addr) (n c : Nat) (xs : List Value) (L : List (List Nat)) (W : World), n ≤ 20 → (∀ x ∈ L, x.length ≤ 100) → w.grownBy W none → Vals W (.slice a n c) xs → Each W xs L → Whole0 (.slice a n c) → Calls Tryd.prog 25 #[.slice a n c] W fun e w' => e = .returned (.bool (decide (Pt.sort L = L))) ∧ W.grownBy w' none

section
variable {P : Program}
/-- 'append(s, x...)' at a step of a region that draws its order. -/
theorem step_appV {w : World} {ops : Array Oper} {o : Oper} {a : Act} {K : Act → World → Prop} {Q : Exit → Act → World → Prop} {E : Prop} (hgd : o.guard = none) (s x : Operand) (t : TypeId)
    (ho : o.op = .call { callee := .builtin .append, args := #[s, x], argTypes := #[t, t] })
    (base : Nat) (e : TypeId) (z : Value) (bytes : Nat) (ht : P.underlying t = some (.slice e)) (hi : (P.info? e).map (fun i => (i.zero, i.size, i.bytes)) = some (some z, 1, bytes)) (hzs : z.cells.size = 1) (hby : bytes ≤ 64)
    (v : Value) (n : Nat) (xs : List Value) (hs : a.eval s = v) (hown : w.ownsRow base e 1 v n xs)
    (u : Value) (l : List Value) (hx : a.eval x = u) (hB : Vals w u l) (h0 : Whole0 u) (h1 : ∀ y ∈ l, y.oneCell' = true)
    (h63 : n + l.length ≤ 1099511627776) (hbase : base ≤ w.heap.size)
    (h : ∀ v' w', w'.ownsRow base e 1 v' (n + l.length) (xs ++ l) → w.grownBy w' v.ownBlock → K (a.put o.dst v') w') : if Region.wanted o (yielded ops a.tmps) = true then Oper.wp P o a w K Q else E := by
  have hw : Region.wanted o (yielded ops a.tmps) = true := by simp [Region.wanted, hgd]
  rw [if_pos hw]
  obtain ⟨i, h1', h2', h3', h4'⟩ := info_parts hi
  obtain ⟨ad, sb, so, c, rfl, hc, ha, hcell⟩ := hB
  match ad with
  | none =>
    obtain ⟨hn0, rfl⟩ := h0 _ _ rfl
    obtain rfl := List.eq_nil_of_length_eq_zero hn0
    have hrun := run_append_owned_none (P := P) (w := w) base t o.type e i 1 ht h1' v n xs hown
    have hx' : a.eval x = .slice none 0 0 := hx
    have hK := h v w (by simpa using hown) (grown_refl _ _)
    unfold Oper.wp
    simp [execOp, ho, resolve, invoke, builtin, hs, hx', hrun, Result.andThen]
    exact hK
  | some ad =>
    obtain ⟨v', w', hr, k1, k2, _⟩ := run_append_sharp (P := P) w base t o.type e i z ht h1' h2' h3' hzs (by rw [h4']; exact hby) v n xs hown ad l.length c l rfl (fun j u' hj => by
      have hjl := (List.getElem?_eq_some_iff.1 hj).1
      obtain ⟨e1, _⟩ := ha (by omega)
      obtain rfl := Option.some.inj e1
      rw [addr_addO, hcell j u' hj]) h1 h63 hbase
    unfold Oper.wp execOp
    simp only [ho, resolve, invoke, builtin, Sem.run_bind, Sem.run_pure, Result.andThen_ok, List.map_toArray, List.map_cons, List.map_nil, hs, hx, hr]
    exact h v' w' k1 k2
end
theorem turn_q (turn : Int) {k : Nat} (hk : 0 < k) (hk2 : k ≤ 20) : ∃ q : Nat, q < k ∧ wrap64 ((IntKind.u64.wrap turn).tmod k) = (q : Int) := by
  have h1 : 0 ≤ IntKind.u64.wrap turn := by rw [IntKind.wrap_u64]; omega
  rw [Int.tmod_eq_emod_of_nonneg h1]
  have h2 := Int.emod_nonneg (IntKind.u64.wrap turn) (show (k : Int) ≠ 0 by omega)
  have h3 := Int.emod_lt_of_pos (IntKind.u64.wrap turn) (show (0 : Int) < k by omega)
  generalize IntKind.u64.wrap turn % (k : Int) = m at *
  refine ⟨m.toNat, by omega, ?_⟩
  simp only [wrap64]
  omega
theorem cat_take (L : List (List Nat)) {j : Nat} (hj : j < L.length) : (L.take (j + 1)).flatten = (L.take j).flatten ++ L.getD j [] := by
  rw [Pt.sort_take L hj, List.flatten_append]
  simp
theorem cat_len : ∀ (L : List (List Nat)), (∀ x ∈ L, x.length ≤ 100) → L.flatten.length ≤ 100 * L.length
  | [], _ => by simp
  | x :: r, h => by
    have h1 := cat_len r (fun y hy => h y (List.mem_cons_of_mem _ hy))
    have h2 := h x (List.mem_cons_self ..)
    rw [List.flatten_cons, List.length_append, List.length_cons]
    omega

theorem Each.lt {w : World} : ∀ {xs : List Value} {L : List (List Nat)}, Each w xs L → ∀ x ∈ L.flatten, x < 256
  | [], [], _, x, hx => by simp at hx
  | _ :: _, _ :: _, h, x, hx => by
    rw [List.flatten_cons, List.mem_append] at hx
    rcases hx with hx | hx
    · exact h.1.1.lt x hx
    · exact h.2.lt x hx
theorem same_any {W : World} {va vb : Option Addr} {na ca nb cb : Nat} {xa xb : List Value} {LA LB : List (List Nat)} (h1 : Vals W (.slice va na ca) xa) (h2 : Each W xa LA) (h3 : Vals W (.slice vb nb cb) xb) (h4 : Each W xb LB) (ha : na ≤ 20) (hb : nb ≤ 20) (d : Bool) (hd : decide (LA = LB) = d) :
    Calls Tryd.prog 24 #[.slice va na ca, .slice vb nb cb] W fun e w' => e = .returned (.bool d) ∧ W.grownBy w' none := by
  obtain ⟨sa, oa, p1, p2, p3⟩ := h2.parts h1
  obtain ⟨sb, ob, q1, q2, q3⟩ := h4.parts h3
  exact (sameL_any LA LB va sa oa na ca p1 vb sb ob nb cb q1 W p2 p3 q2 q3 (by omega) (by omega)).mono (fun e w' ⟨k1, q, k2⟩ => ⟨by rw [k1, hd], by rw [k2]; exact grown_drewN (grown_refl _ _) _⟩)

set_option maxRecDepth 100000 in
set_option maxHeartbeats 4000000 in
theorem textsSet_any (A : Nat → Addr) (a : Option Addr) (n c : Nat) (ys : List Value) (L : List (List Nat)) (turn : Int) (w : World) (hV : Vals w (.slice a n c) ys) (hE : Each w ys L) (h0 : Whole0 (.slice a n c)) (ht : inT turn) (hF : TxFlags A w) (hS : TxSet w) (hSo : TxSorted w) :
    Calls Tryd.prog 6 #[.slice a n c, .int .i64 turn] w fun e w' => e = .returned (.bool true) ∧ w.grownBy w' none := by
  have HAl := Lib.hid (alive7_any A w hF)
  by_cases h20 : 20 < n
  · clear hV hE h0 ht hF hS hSo
    go_enter Tryd.func6, Tryd.ntmps6
    go_wp2_with (go_at_call 7; refine HAl.out.mono ?_; rintro e w1 ⟨rfl, hg1⟩; have HG1 := Lib.hid hg1; clear hg1)
    go_ret
    exact ⟨rfl, HG1.out⟩
  have hn20 : n ≤ 20 := by omega
  have hln : L.length = n := by rw [← hE.len]; exact hV.cap.1.symm
  have HV := Lib.hid hV
  have HE := Lib.hid hE
  have H0 := Lib.hid h0
  have HLn := Lib.hid hln
  have HS := Lib.hid hS
  have HSo := Lib.hid hSo
  have HT := Lib.hid ht
  obtain ⟨a1, sb, so, c1, he, hc, ha, hcell⟩ := hV
  simp only [Value.slice.injEq] at he
  obtain ⟨rfl, hny, rfl⟩ := he
  rw [← hny] at hc ha
  have HA : Hid (∀ j, j < n → a = some ⟨sb, so, none⟩ ∧ sb < w.heap.size) := Lib.hid (fun j hj => ha (by omega))
  have HIn : Hid (∀ W, w.grownBy W none → ∀ j, j < n → ∃ ya yc, W.cell? ⟨sb, so + j, none⟩ = some (.slice ya (L.getD j []).length yc)) := Lib.hid (fun W hW j hj => by
    obtain ⟨y, h1, h2, h3⟩ := hE.at_ j (by omega)
    obtain ⟨_, ya, _, _, yc, rfl, _⟩ := h2
    exact ⟨ya, yc, by rw [World.cell?_of_block (hW.block sb (ha (by omega)).2 (by simp))]; exact hcell j _ h1⟩)
  have hi1 : ((Tryd.prog.info? 24).map (fun i => (i.zero, i.size, i.bytes))) = some (some (.slice none 0 0), 1, 24) := by kernel_rfl
  have HI1 := Lib.hid hi1
  clear hE h0 ht hF hS hSo h20 hln ha hcell hny hi1
  go_enter Tryd.func6, Tryd.ntmps6
  go_wp2_with (go_at_call 7; refine HAl.out.mono ?_; rintro e w1 ⟨rfl, hg1⟩; have HG1 := Lib.hid hg1; clear hg1)
  go_loopw [22] (fun i wr => ∃ j : Nat, j ≤ n ∧ i = .int .i64 (j : Int) ∧ wr = w1 ∧ ∀ i, i < j → (L.getD i []).length ≤ 100) (fun i _ => n - (intOf i).toNat)
  case atStart => exact ⟨0, Nat.zero_le _, rfl, rfl, fun i hi => absurd hi (Nat.not_lt_zero _)⟩
  case round =>
    obtain ⟨j, hj, rfl, rfl, hall⟩ := hrel
    have HAll := Lib.hid hall
    clear hall
    by_cases hjn : j < n
    · obtain ⟨rfl, _⟩ := HA.out j hjn
      obtain ⟨ya, yc, hy⟩ := HIn.out wr HG1.out j hjn
      generalize hl : (L.getD j []).length = yl at *
      have HLl := Lib.hid hl
      clear hl
      by_cases h100 : 100 < yl
      · go_wp2
        go_ret
        exact ⟨rfl, HG1.out⟩
      · go_wp2
        go_roundw
        case rel => exact ⟨j + 1, by omega, by go_num, trivial, fun i hi => by
          rcases Nat.lt_or_ge i j with h | h
          · exact HAll.out i h
          · obtain rfl : i = j := by omega
            rw [HLl.out]; omega⟩
        case measure => simp [intOf]; omega
    · obtain rfl : j = n := by omega
      have H100 : Hid (∀ x ∈ L, x.length ≤ 100) := Lib.hid (fun x hx => by
        obtain ⟨i, hi, rfl⟩ := List.getElem_of_mem hx
        have := HAll.out i (by rw [← HLn.out]; exact hi)
        rw [List.getD_eq_getElem?_getD, List.getElem?_eq_getElem hi] at this
        exact this)
      have hv1 := HV.out.grown HG1.out
      have HV1 := Lib.hid hv1
      have HE1 := Lib.hid (HE.out.grown HG1.out)
      have HYs : Hid (ys.length = j) := Lib.hid hv1.cap.1.symm
      have F1 := Lib.hid (FrV.first wr)
      clear hv1
      have hcatl := cat_len (Pt.sort L) (fun x hx => H100.out x (Pt.sort_mem.1 hx))
      rw [Pt.sort_len, HLn.out] at hcatl
      have HCt := Lib.hid hcatl
      have hpl : ∀ i, i ≤ j → ((Pt.sort L).take i).flatten.length ≤ 2000 := fun i hi => by
        have := cat_len ((Pt.sort L).take i) (fun x hx => H100.out x (Pt.sort_mem.1 (List.mem_of_mem_take hx)))
        rw [List.length_take, Pt.sort_len, HLn.out] at this
        omega
      have HPl := Lib.hid hpl
      clear hcatl hpl
      go_wp2_with (first
        | (at_builtin; refine wpList_appV (by rfl) (.tmp 30) (.tmp 31) 44 (by rfl) wr.heap.size 24 (.slice none 0 0) 24 Tryd.underlying44 HI1.out rfl (by decide) _ _ _ (by rfl) F1.out.own _ ys (by rfl) (HV1.out.grown F1.out.grown) H0.out HE1.out.one (by have := HYs.out; simp; omega) (by rw [alloc_size]; omega) ?_; intro v2 w2 ho2 hg2 _; rw [show ([] : List Value).length + ys.length = j by rw [HYs.out]; simp] at ho2; obtain ⟨ai, gi, ci, hvi, hX1, hX2, hX3, hX4⟩ := ownsRow_form ho2; clear hX1 hX2 hX3 hX4; subst hvi; have F2 := Lib.hid (F1.out.step ho2 hg2); have HVI := Lib.hid (Vals.own ho2); clear ho2 hg2)
        | (go_at_call 22; refine (refSorted_any a j c ys L w2 (HV1.out.grown F2.out.grown) (HE1.out.grown F2.out.grown) (by omega)).mono ?_; rintro e w3 ⟨u3, xs3, rfl, hf3, he3⟩; have hx3 : xs3.length = j := by { rw [he3.len, Pt.sort_len]; exact HLn.out }; obtain ⟨au, gu, cu, hvu, hX1, hX2, hau, hclu⟩ := ownsRow_form hf3.own; clear hX1 hX2; subst hvu; rw [hx3] at hf3 hau hclu ⊢; have F3 := Lib.hid hf3; have HE3 := Lib.hid he3; have HAu := Lib.hid hau; have HClu := Lib.hid hclu; clear hf3 he3 hau hclu hx3))
      have FA := Lib.hid (show FrW w3 (w3.alloc (.cells #[] 5)) (.slice (some ⟨w3.heap.size, 0, none⟩) 0 0) [] from ⟨World.grownBy_alloc _ _ _, ownsRow_lit (alloc_at w3 _) (Nat.le_refl _) (by simp)⟩)
      have HI3 : Hid (∀ W, w3.grownBy W none → ∀ i, i < j → au = some ⟨gu, 0, none⟩ ∧ ∃ y, W.cell? ⟨gu, i, none⟩ = some y ∧ Bytes W y ((Pt.sort L).getD i []) ∧ Whole0 y) := Lib.hid (fun W hW i hi => by
        obtain ⟨h1, h2, h3⟩ := HAu.out (by omega)
        obtain ⟨y, k1, k2, k3⟩ := HE3.out.at_ i (by rw [Pt.sort_len, HLn.out]; exact hi)
        exact ⟨h1, y, by rw [World.cell?_of_block (hW.block gu h3 (by simp)), HClu.out i hi]; exact k1, k2.grown hW, k3⟩)
      have HTk : Hid (∀ i, i < j → ((Pt.sort L).take (i + 1)).flatten = ((Pt.sort L).take i).flatten ++ (Pt.sort L).getD i []) := Lib.hid (fun i hi => cat_take _ (by rw [Pt.sort_len, HLn.out]; exact hi))
      have HTe : Hid (((Pt.sort L).take j).flatten = (Pt.sort L).flatten) := Lib.hid (by rw [List.take_of_length_le (by rw [Pt.sort_len, HLn.out]; exact Nat.le_refl _)])
      obtain ⟨wz, hwz⟩ : ∃ wz : World, wz = wr := ⟨_, rfl⟩
      rw [← hwz] at HG1 HV1 HE1 F2
      clear hwz F1
      go_loopw [9, 38] (fun v i wr => ∃ k : Nat, k ≤ j ∧ i = .int .i64 (k : Int) ∧ FrW w3 wr v ((Pt.sort L).take k).flatten) (fun _ i _ => j - (intOf i).toNat)
      case atStart => exact ⟨0, Nat.zero_le _, rfl, FA.out⟩
      case round =>
        obtain ⟨k, hk, rfl, hF⟩ := hrel
        have HF := Lib.hid hF
        by_cases hkj : k < j
        · obtain ⟨rfl, y, hy, hyb, hy0⟩ := HI3.out wr hF.grown k hkj
          have HYb := Lib.hid hyb
          have HY0 := Lib.hid hy0
          have HTk2 := Lib.hid (HTk.out k hkj)
          have HP2 := Lib.hid (HPl.out (k + 1) (by omega))
          clear hF hyb hy0
          go_wp2_with (at_builtin; refine wpList_appB (by rfl) (.tmp 42) (.tmp 43) 24 (by rfl) w3.heap.size 5 (.int .u8 0) 1 Tryd.underlying24 (by kernel_rfl) rfl (by decide) _ _ _ (by rfl) HF.out.own _ _ (by rfl) HYb.out HY0.out (by have h1 := HP2.out; rw [HTk2.out, List.length_append] at h1; omega) HF.out.le ?_; intro v4 w4 ho4 hg4; have F4 := Lib.hid (HF.out.step (l' := ((Pt.sort L).take (k + 1)).flatten) ho4 hg4 (by rw [HTk2.out]; exact (cellsL_append _ _).symm)); clear ho4 hg4)
          go_roundw
          case rel => exact ⟨k + 1, by omega, by go_num, F4.out⟩
          case measure => simp [intOf]; omega
        · obtain rfl : k = j := by omega
          rw [HTe.out] at HF
          obtain ⟨d, hd⟩ : ∃ d, d = decide (Pt.sort L = L) := ⟨_, rfl⟩
          have gr := grown_trans HG1.out (grown_trans F2.out.grown (grown_trans F3.out.grown HF.out.grown))
          have GR := Lib.hid gr
          have g2r := grown_trans F3.out.grown HF.out.grown
          have hsl : ∀ x ∈ Pt.sort L, x.length ≤ 100 := fun x hx => H100.out x (Pt.sort_mem.1 hx)
          have eIn : ∀ W, wr.grownBy W none → Vals W (.slice ai k ci) ([] ++ ys) ∧ Each W ([] ++ ys) L := fun W hW => ⟨HVI.out.grown (grown_trans g2r hW), HE1.out.grown (grown_trans F2.out.grown (grown_trans g2r hW))⟩
          have eL : ∀ W, wr.grownBy W none → Vals W (.slice a k c) ys ∧ Each W ys L := fun W hW => ⟨HV1.out.grown (grown_trans F2.out.grown (grown_trans g2r hW)), HE1.out.grown (grown_trans F2.out.grown (grown_trans g2r hW))⟩
          have eU : ∀ W, wr.grownBy W none → Vals W (.slice au k cu) xs3 ∧ Each W xs3 (Pt.sort L) := fun W hW => ⟨(Vals.own F3.out.own).grown (grown_trans HF.out.grown hW), HE3.out.grown (grown_trans HF.out.grown hW)⟩
          have CS1 : Hid (∀ W, wr.grownBy W none → Calls Tryd.prog 23 #[.slice ai k ci] W fun e w' => ∃ u, e = .returned u ∧ W.grownBy w' none ∧ Bytes w' u (Pt.sort L).flatten) := Lib.hid (fun W hW => HS.out _ _ _ _ L W hn20 H100.out (grown_trans gr hW) (eIn W hW).1 (eIn W hW).2 F2.out.whole)
          have CL1 := Lib.hid (fun W hW => same_any (eIn W hW).1 (eIn W hW).2 (eL W hW).1 (eL W hW).2 hn20 hn20 true (decide_eq_true rfl))
          have CL2 := Lib.hid (fun W hW => same_any (eU W hW).1 (eU W hW).2 (eL W hW).1 (eL W hW).2 hn20 hn20 d hd.symm)
          have CO1 : Hid (∀ W, wr.grownBy W none → Calls Tryd.prog 25 #[.slice a k c] W fun e w' => e = .returned (.bool d) ∧ W.grownBy w' none) := Lib.hid (fun W hW => by rw [hd]; exact HSo.out _ _ _ _ L W hn20 H100.out (grown_trans gr hW) (eL W hW).1 (eL W hW).2 H0.out)
          have CO2 : Hid (∀ W, wr.grownBy W none → Calls Tryd.prog 25 #[.slice au k cu] W fun e w' => e = .returned (.bool true) ∧ W.grownBy w' none) := Lib.hid (fun W hW => by
            have := HSo.out _ _ _ _ (Pt.sort L) W hn20 hsl (grown_trans gr hW) (eU W hW).1 (eU W hW).2 F3.out.whole
            rw [decide_eq_true (Pt.sort_of_sorted (Pt.sort_sorted L))] at this
            exact this)
          have hlt := Each.lt HE3.out
          have HC := Lib.hid (fun W x (hx : Bytes W x (Pt.sort L).flatten) => conv_bytes (P := Tryd.prog) hx 24 5 9 Tryd.underlying24 Tryd.underlying5 Tryd.underlying9)
          have HB9 := Lib.hid (Bytes.own HF.out.own hlt)
          have HTurn : Hid (∀ q, Pt.sort (L.drop q ++ L.take q) = Pt.sort L) := Lib.hid (fun q => Pt.sort_turn L q)
          have HEl := Lib.hid eL
          clear hF hd gr g2r hsl eIn eL eU hlt
          generalize strOf (Pt.sort L).flatten = ST at *
          by_cases hk0 : k = 0
          · subst hk0
            go_wp2_with (first
              | (go_at_call 23; refine (CS1.out _ (grown_refl _ _)).mono ?_; rintro e w5 ⟨u5, rfl, hg5, hb5⟩; have G5 := Lib.hid hg5; have q1 := HC.out _ _ hb5; have q2 := HC.out _ _ (HB9.out.grown hg5); clear hg5 hb5)
              | (go_at_call 24; with_reducible refine (CL1.out _ G5.out).mono ?_; rintro e w6 ⟨rfl, hg6⟩; have G6 := Lib.hid (grown_trans G5.out hg6); clear hg6)
              | (go_at_call 25; with_reducible refine (CO1.out _ G6.out).mono ?_; rintro e w7 ⟨rfl, hg7⟩; have G7 := Lib.hid (grown_trans G6.out hg7); clear hg7)
              | (go_at_call 24; with_reducible refine (CL2.out _ G7.out).mono ?_; rintro e w8 ⟨rfl, hg8⟩; have G8 := Lib.hid (grown_trans G7.out hg8); clear hg8)
              | (go_at_call 25; with_reducible refine (CO2.out _ G8.out).mono ?_; rintro e w9 ⟨rfl, hg9⟩; have G9 := Lib.hid (grown_trans G8.out hg9); clear hg9))
            go_ret
            exact ⟨rfl, grown_trans GR.out G9.out⟩
          · have hkne : ((k : Int) == 0) = false := beq_eq_false_iff_ne.2 (by omega)
            have hkp : 0 < k := by omega
            clear hk0
            go_wp2_with (first
              | (go_at_call 23; refine (CS1.out _ (grown_refl _ _)).mono ?_; rintro e w5 ⟨u5, rfl, hg5, hb5⟩; have G5 := Lib.hid hg5; have q1 := HC.out _ _ hb5; have q2 := HC.out _ _ (HB9.out.grown hg5); have HB5 := Lib.hid hb5; clear hg5 hb5)
              | (go_at_call 24; with_reducible refine (CL1.out _ G5.out).mono ?_; rintro e w6 ⟨rfl, hg6⟩; have G6 := Lib.hid (grown_trans G5.out hg6); have G56 := Lib.hid hg6; clear hg6)
              | (go_at_call 25; with_reducible refine (CO1.out _ G6.out).mono ?_; rintro e w7 ⟨rfl, hg7⟩; have G7 := Lib.hid (grown_trans G6.out hg7); have G57 := Lib.hid (grown_trans G56.out hg7); clear hg7)
              | (go_at_call 24; with_reducible refine (CL2.out _ G7.out).mono ?_; rintro e w8 ⟨rfl, hg8⟩; have G8 := Lib.hid (grown_trans G7.out hg8); have G58 := Lib.hid (grown_trans G57.out hg8); clear hg8)
              | (go_at_call 25; with_reducible refine (CO2.out _ G8.out).mono ?_; rintro e w9 ⟨rfl, hg9⟩; have G9 := Lib.hid (grown_trans G8.out hg9); have G5w := Lib.hid (grown_trans G58.out hg9); clear hg9))
            obtain ⟨q, hqk, hqe⟩ := turn_q turn hkp hn20
            rw [hqe]
            have GD : Hid (wr.grownBy w9 none) := Lib.hid G9.out
            have FD : Hid (FrV w9 (w9.alloc (.cells #[] 24)).drew (.slice (some ⟨w9.heap.size, 0, none⟩) 0 0) []) := Lib.hid ⟨grown_drewN (FrV.first w9).grown 1, (FrV.first w9).own⟩
            have HXD := Lib.hid (fun W hW => ((HEl.out W (grown_trans GD.out hW)).1.from q (by omega)))
            have HXT := Lib.hid (fun W hW => ((HEl.out W (grown_trans GD.out hW)).1.to q (by omega)))
            have HEw := Lib.hid (fun W hW => (HEl.out W (grown_trans GD.out hW)).2)
            have hWD : Whole0 (.slice (subA a q c) (k - q) (c - q)) := H0.out.from q
            have hWT : Whole0 (.slice a q c) := H0.out.to q (by omega)
            have HWD := Lib.hid hWD
            have HWT := Lib.hid hWT
            have HY1 := Lib.hid (HEl.out wr (grown_refl _ _)).2.one
            have hqc : q ≤ c := by omega
            have hq1 : (0 : Int) ≤ (q : Int) := by omega
            have hq2 : (q : Int) ≤ (k : Int) := by omega
            have hq3 : (q : Int) ≤ (c : Int) := by omega
            clear hWD hWT hqe q1 q2
            go_region_held3 (fun w' => w9.grownBy w' none)
              (first
                | exact ⟨rfl, rfl, rfl, Nat.le_refl _, fun _ _ _ => rfl⟩
                | exact grown_drewN (grown_alloc (grown_refl _ _) _) 1
                | exact grown_alloc (grown_drewN (grown_refl _ _) 1) _
                | exact K11.out
                | exact K10.out)
              ((first
                | (refine step_appV (by rfl) (.tmp 82) (.tmp 85) 44 (by rfl) w9.heap.size 24 (.slice none 0 0) 24 Tryd.underlying44 HI1.out rfl (by decide) _ _ _ (by rfl) FD.out.own _ (ys.drop q) (by rfl) (HXD.out _ FD.out.grown) HWD.out (fun u hu => HY1.out u (List.mem_of_mem_drop hu)) (by have := HYs.out; simp; omega) FD.out.grown.size ?_; intro v10 w10 ho10 hg10; have F10 := Lib.hid (FD.out.step ho10 hg10); have K10 : Hid (w9.grownBy w10 none) := Lib.hid F10.out.grown; clear ho10 hg10)
                | (refine step_appV (by rfl) (.tmp 86) (.tmp 89) 44 (by rfl) w9.heap.size 24 (.slice none 0 0) 24 Tryd.underlying44 HI1.out rfl (by decide) _ _ _ (by rfl) F10.out.own _ (ys.take q) (by rfl) (HXT.out _ F10.out.grown) HWT.out (fun u hu => HY1.out u (List.mem_of_mem_take hu)) (by have := HYs.out; simp; omega) F10.out.grown.size ?_; intro v11 w11 ho11 hg11; have F11 := Lib.hid (F10.out.step ho11 hg11); have K11 : Hid (w9.grownBy w11 none) := Lib.hid F11.out.grown; clear ho11 hg11)))
            obtain ⟨a11, g11, c11, hv11, hX1, hX2, hX3, hX4⟩ := ownsRow_form F11.out.own
            clear hX1 hX2 hX3 hX4
            subst hv11
            have hE11 : ∀ W, w9.grownBy W none → Each W (([] ++ ys.drop q) ++ ys.take q) (L.drop q ++ L.take q) := fun W hW => ((HEw.out W hW).drop q).append ((HEw.out W hW).take q)
            have hn11 : (([] ++ ys.drop q) ++ ys.take q : List Value).length ≤ 20 := by
              have := HYs.out
              simp
              omega
            have h100 : ∀ x ∈ L.drop q ++ L.take q, x.length ≤ 100 := fun x hx => by
              rcases List.mem_append.1 hx with h | h
              · exact H100.out x (List.mem_of_mem_drop h)
              · exact H100.out x (List.mem_of_mem_take h)
            have CS2 : Hid (∀ W, w11.grownBy W none → Calls Tryd.prog 23 #[.slice a11 (([] ++ ys.drop q) ++ ys.take q : List Value).length c11] W fun e w' => ∃ u, e = .returned u ∧ W.grownBy w' none ∧ isB (Pt.sort L).flatten u w') := Lib.hid (fun W hW => by
              have := HS.out a11 _ c11 _ (L.drop q ++ L.take q) W hn11 h100 (grown_trans GR.out (grown_trans GD.out (grown_trans F11.out.grown hW))) ((Vals.own F11.out.own).grown hW) (hE11 W (grown_trans F11.out.grown hW)) F11.out.whole
              rw [HTurn.out q] at this
              exact this)
            have HB11 := Lib.hid (fun W (hW : w11.grownBy W none) => HC.out W u5 (HB5.out.grown (grown_trans (G5w.out) (grown_trans F11.out.grown hW))))
            clear hE11 hn11 h100
            go_wp2
            refine ts_region _ (.slice a11 (([] ++ ys.drop q) ++ ys.take q : List Value).length c11) u5 ST (Pt.sort L).flatten w11 w11 _ rfl rfl rfl (fun W hW => CS2.out W hW) (fun W hW => HB11.out W hW) (fun W x hx => HC.out W x hx) ⟨rfl, rfl, rfl, Nat.le_refl _, fun _ _ _ => rfl⟩ (fun us w12 hg12 => ?_)
            simp only [fill_cons, fill_nil, Act.put, List.setIfInBounds_toArray, List.set_cons_succ, List.set_cons_zero]
            have HG12 := Lib.hid hg12
            clear hg12
            go_wp2
            go_ret
            exact ⟨rfl, grown_trans GR.out (grown_trans GD.out (grown_trans F11.out.grown HG12.out))⟩
end Go.Proofs.YtbneggdfbkebcaaDoor
