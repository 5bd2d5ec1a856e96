/- The walk of tlv's first. bytes.Compare and bytes.Clone. -/
import Derived.Test.YtndgbhgalablfaaDoorTl3
import Derived.Test.YtndgbhgalablfaaDoorQTail
import Derived.Laws.Tables
import Derived.Laws.Rows
import Derived.RegionTactic
import Derived.BigRegion
import Derived.ChangeAlike
import Derived.Test.YtndgbhgalablfaaDoorSub
import Derived.Test.YtndgbhgalablfaaDoorTl1
import Derived.Test.YtndgbhgalablfaaDoorMs5
import Derived.Laws.Externs
import Derived.WalkKit
import Derived.Lib.Hide
namespace Go.Proofs.YtndgbhgalablfaaDoor
open Go.RowKit

theorem results_row_tmp2 {P : Program} {fn : Func} {p u u2 : Tmp} {ty : TypeId} (h : fn.results = #[.cell p ty, .tmp u, .tmp u2]) (tmps : Array Value) (w : World) (g : Nat) (t : TypeId) (cs : Array Value) (fr : Nat × Nat) (d : TypeDesc) (v v2 : Value)
    (hp : tmps.getD p undef = .pointer (some ⟨g, 0, none⟩)) (hg : w.heap[g]? = some (.cells cs t fr)) (hu : P.underlying ty = some d) (hd : (match d with | .struct _ | .array _ _ => true | _ => false) = true) (hi : (P.info? ty).map (·.size) = some cs.size)
    (hv : tmps.getD u undef = v) (hv2 : tmps.getD u2 undef = v2) : (results fn tmps).run P w = .ok (.tuple #[.agg cs, v, v2]) w := by
  have hl := run_loadVar_row (P := P) w g t ty cs fr d hg hu hd hi
  have hp' : tmps[p]?.getD undef = .pointer (some ⟨g, 0, none⟩) := by simpa using hp
  have hv' : tmps[u]?.getD undef = v := by simpa using hv
  have hv2' : tmps[u2]?.getD undef = v2 := by simpa using hv2
  simp [results, h, hp', hv', hv2', asAddr, hl, Result.andThen]

/-- What first answers. -/
def FstPost (A : Nat → Addr) (v : Value) (l : List Nat) (r : Except Nat (Nat × Nat × Nat)) (e : Ending) : Prop :=
  match r with
  | .error k => e = .returned (.tuple #[.agg #[.int .i64 0, .slice none 0 0], .slice none 0 0, errV A k])
  | .ok (t, i, n) => ∃ ab cb ar m cr, i + n + m = l.length ∧ e = .returned (.tuple #[.agg #[.int .i64 t, .slice ab n cb], .slice ar m cr, .nilIface]) ∧
      (∀ W, Bytes W v l → Bytes W (.slice ab n cb) ((l.drop i).take n)) ∧ Whole0 (.slice ab n cb) ∧ (∀ W, Bytes W v l → Bytes W (.slice ar m cr) (l.drop (i + n))) ∧ Whole0 (.slice ar m cr)

theorem two_one {x y : Value} (hx : x.oneCell' = true) (hy : y.oneCell' = true) : #[x, y].all (·.oneCell') = true := by simp [hx, hy]
theorem set2_heap {w : World} {g : Nat} {x y : Value} {t : TypeId} (h : w.heap[g]? = some (.cells #[x, y] t (0, 0))) (v u : Value) : ((w.setCell ⟨g, 0, none⟩ v).setCell ⟨g, 1, none⟩ u).heap[g]? = some (.cells #[v, u] t (0, 0)) := by
  rw [setCell_heap (setCell_heap h v) u]
  rfl
theorem grown_set2 {w w' : World} (h : w.grownBy w' none) {g : Nat} (hg : w.heap.size ≤ g) (v u : Value) : w.grownBy ((w'.setCell ⟨g, 0, none⟩ v).setCell ⟨g, 1, none⟩ u) none := grown_set (grown_set h (.inl hg) _) (.inl hg) _
theorem grown_drew {a b : World} {row : Option Nat} (h : a.grownBy b row) : a.grownBy b.drew row := ⟨h.os, h.tape, h.output, h.size, h.block⟩
theorem elI : (Tryd.prog.info? 46).map (·.size) = some 2 := by kernel_rfl

set_option maxRecDepth 100000 in
set_option maxHeartbeats 1000000 in
theorem tlvFirst_any (A : Nat → Addr) (v : Value) (l : List Nat) (w : World) (hB : Bytes w v l) (h0 : Whole0 v) (hl : l.length ≤ 4611686018427387904) (hE : AllErrs w A) :
    Calls Tryd.prog 43 #[v] w fun e w' => FstPost A v l (Tl.first l) e ∧ w.grownBy w' none := by
  have eS := errs_at hE 2 (by decide)
  have eT := errs_at hE 5 (by decide)
  simp only [errVars, List.getD_cons_zero, List.getD_cons_succ, Nat.add_one_sub_one] at eS eT
  have HES := Lib.hid eS
  have HET := Lib.hid eT
  have HE := Lib.hid hE
  have hsz := Lib.hid (show 3 < w.heap.size ∧ 5 < w.heap.size from ⟨hE.lt 1 (by decide), hE.lt 4 (by decide)⟩)
  have HR : Hid (∀ r e, Tl.first l = r → FstPost A v l r e → FstPost A v l (Tl.first l) e) := Lib.hid (fun r e h h2 => by rw [h]; exact h2)
  obtain ⟨R, hR⟩ : ∃ R, R = FstPost A v l (Tl.first l) := ⟨_, rfl⟩
  rw [← hR] at HR ⊢
  clear hR eS eT hE
  obtain ⟨w0, hw0⟩ : ∃ w0, w0 = w.alloc (.cells #[.int .i64 0, .slice none 0 0] 46) := ⟨_, rfl⟩
  have G0 : Hid (w.grownBy w0 none) := Lib.hid (by rw [hw0]; exact World.grownBy_alloc _ _ _)
  have B0 : Hid (w0.heap[w.heap.size]? = some (.cells #[.int .i64 0, .slice none 0 0] 46 (0, 0))) := Lib.hid (by rw [hw0]; exact alloc_at _ _)
  have HW0 := Lib.hid hw0
  clear hw0
  obtain ⟨g, hg⟩ : ∃ g, g = w.heap.size := ⟨_, rfl⟩
  have hgw : w.heap.size ≤ g := by omega
  have HGW := Lib.hid hgw
  have n3 : ¬ (3 = g) := by have := hsz.out; omega
  have n5 : ¬ (5 = g) := by have := hsz.out; omega
  rw [← hg] at B0
  have HG := Lib.hid hg
  clear hg hgw
  have eS : w0.cell? ⟨3, 0, none⟩ = some (errV A 2) := by rw [World.cell?_of_block (G0.out.block _ hsz.out.1 (by simp))]; exact HES.out
  have eT : w0.cell? ⟨5, 0, none⟩ = some (errV A 5) := by rw [World.cell?_of_block (G0.out.block _ hsz.out.2 (by simp))]; exact HET.out
  have c0 := cell_blk B0.out 0 rfl
  have c1 := cell_blk B0.out 1 rfl
  have f0 := free_blk B0.out 0
  have f1 := free_blk B0.out 1
  have HGr : Hid (∀ (n : Nat) (v u : Value) W, W = (((w0.drewN n).setCell ⟨g, 0, none⟩ v).setCell ⟨g, 1, none⟩ u) → w.grownBy W none) := Lib.hid (fun n v u W hW => by
    rw [hW]
    exact grown_set2 (grown_drewN G0.out _) HGW.out _ _)
  have HFin : Hid (∀ (n : Nat) (v u s : Value) (tmps : Array Value) (y : Value) W, W = (((w0.drewN n).setCell ⟨g, 0, none⟩ v).setCell ⟨g, 1, none⟩ u) → tmps.getD 2 undef = .pointer (some ⟨g, 0, none⟩) → tmps.getD 3 undef = s → tmps.getD 4 undef = y →
      (results Tryd.f43 tmps).run Tryd.prog W = .ok (.tuple #[.agg #[v, u], s, y]) W) := Lib.hid (fun n v u s tmps y W hW h2 h3 h4 => by
    have hb := set2_heap (w := w0.drewN n) B0.out v u
    rw [← hW] at hb
    exact results_row_tmp2 Tryd.results43 tmps W g _ _ (0, 0) _ _ _ h2 hb Tryd.underlying46 rfl elI h3 h4)
  have hB' := hB
  obtain ⟨hlt, a, sb, so, c, rfl, hc, ha, hcell⟩ := hB'
  match l, hB, h0, hl, hlt, hc, ha, hcell, HR with
  | [], hB, h0, hl, hlt, hc, ha, hcell, HR =>
    have HX := Lib.hid (show Tl.first [] = .error 2 from rfl)
    clear hB hlt ha hcell
    go_enter Tryd.func43, Tryd.ntmps43
    go_wp2
    rw [← HW0.out, ← HG.out]
    go_region
    go_wp2
    exact bodyPost_ret (HFin.out 1 (.int .i64 0) (.slice none 0 0) _ _ _ _ (by rfl) (by rfl) (by rfl) (by rfl)) rfl ⟨HR.out _ _ HX.out rfl, HGr.out 1 (.int .i64 0) (.slice none 0 0) _ rfl⟩
  | x :: r, hB, h0, hl, hlt, hc, ha, hcell, HR =>
    obtain ⟨n, hn⟩ : ∃ n, n = r.length := ⟨_, rfl⟩
    have HN := Lib.hid hn
    have hlen : (x :: r).length = n + 1 := by rw [hn]; rfl
    rw [hlen] at hB h0 hl hc ha HR ⊢
    obtain ⟨rfl, hsb⟩ := ha (by omega)
    have hx := hlt x (by simp)
    have cx := hcell 0 (by simp)
    simp only [List.getD_cons_zero, Nat.add_zero] at cx
    have cx0 : w0.cell? ⟨sb, so, none⟩ = some (.int .u8 (x : Int)) := by rw [World.cell?_of_block (G0.out.block _ hsb (by simp))]; exact cx
    have cx1 := cx0
    rw [HW0.out] at cx1
    have B1 := hB.from 1 (by omega)
    have W1 := h0.from 1
    simp only [List.drop_succ_cons, List.drop_zero, Nat.add_one_sub_one] at B1 W1
    have HB1 := Lib.hid (B1.grown G0.out)
    have HW1 := Lib.hid W1
    have HK := Lib.hid (known_any (x : Int))
    clear hB h0 hlt ha hcell hlen B1 W1 cx hn
    cases hk : Tl.known (x : Int) with
    | false =>
      have HX : Hid (Tl.first (x :: r) = .error 5) := Lib.hid (by rw [Tl.first, if_pos hk])
      rw [hk] at HK
      clear hk
      go_enter Tryd.func43, Tryd.ntmps43
      go_wp2_with (go_at_call 30; rw [← HW0.out, ← HG.out]; refine (HK.out _).mono ?_; rintro e w2 ⟨rfl, rfl⟩)
      go_region
      go_wp2
      exact bodyPost_ret (HFin.out 1 (.int .i64 0) (.slice none 0 0) _ _ _ _ (by rfl) (by rfl) (by rfl) (by rfl)) rfl ⟨HR.out _ _ HX.out rfl, HGr.out 1 (.int .i64 0) (.slice none 0 0) _ rfl⟩
    | true =>
      rw [hk] at HK
      have HR1 := Lib.hid (rdLen_any A _ r w0 HB1.out HW1.out (by rw [← HN.out]; omega) (HE.out.grown G0.out))
      cases hrd : Tl.rdLen r with
      | error k =>
        have HX : Hid (Tl.first (x :: r) = .error k) := Lib.hid (by rw [Tl.first, if_neg (by rw [hk]; simp), hrd])
        rw [hrd] at HR1
        clear hk hrd
        go_enter Tryd.func43, Tryd.ntmps43
        go_wp2_with (first
          | (go_at_call 30; rw [← HW0.out, ← HG.out]; refine (HK.out _).mono ?_; rintro e w2 ⟨rfl, rfl⟩)
          | (go_at_call 62; refine HR1.out.mono ?_; rintro e w2 ⟨rfl, mq, rfl⟩))
        exact bodyPost_ret (HFin.out mq (.int .i64 0) (.slice none 0 0) _ _ _ _ (by rfl) (by rfl) (by rfl) (by rfl)) rfl ⟨HR.out _ _ HX.out rfl, HGr.out mq (.int .i64 0) (.slice none 0 0) _ rfl⟩
      | ok p =>
        obtain ⟨q, k⟩ := p
        have HX0 : Hid (Tl.first (x :: r) = if r.length - k < q then .error 2 else .ok (x, 1 + k, q)) := Lib.hid (by rw [Tl.first, if_neg (by rw [hk]; simp), hrd])
        rw [hrd] at HR1
        clear hk hrd
        by_cases hshort : r.length - k < q
        · have HX : Hid (Tl.first (x :: r) = .error 2) := Lib.hid (by rw [HX0.out, if_pos hshort])
          have HSh := Lib.hid hshort
          clear hshort
          go_enter Tryd.func43, Tryd.ntmps43
          go_wp2_with (first
            | (go_at_call 30; rw [← HW0.out, ← HG.out]; refine (HK.out _).mono ?_; rintro e w2 ⟨rfl, rfl⟩)
            | (go_at_call 62; refine HR1.out.mono ?_; rintro e w2 ⟨⟨hkr, a2, m2, c2, hm2, rfl, hB2, hW2⟩, mq, rfl⟩; have hlt2 : m2 < q := (by have := HSh.out; omega); clear hm2 hkr hB2 hW2))
          go_region
          go_wp2
          exact bodyPost_ret (HFin.out (mq + 1) (.int .i64 0) (.slice none 0 0) _ _ _ _ (by rfl) (by rfl) (by rfl) (by rfl)) rfl ⟨HR.out _ _ HX.out rfl, HGr.out (mq + 1) (.int .i64 0) (.slice none 0 0) _ rfl⟩
        · have HX : Hid (Tl.first (x :: r) = .ok (x, 1 + k, q)) := Lib.hid (by rw [HX0.out, if_neg hshort])
          have HSh := Lib.hid hshort
          clear hshort
          go_enter Tryd.func43, Tryd.ntmps43
          go_wp2_with (first
            | (go_at_call 30; rw [← HW0.out, ← HG.out]; refine (HK.out _).mono ?_; rintro e w2 ⟨rfl, rfl⟩)
            | (go_at_call 62; refine HR1.out.mono ?_; rintro e w2 ⟨⟨hkr, a2, m2, c2, hm2, rfl, hB2, hW2⟩, mq, rfl⟩; have hlt2 : q ≤ m2 := (by have := HSh.out; omega); have hqc := (hB2 _ HB1.out).cap.2; have hqc2 : q ≤ c2 := (by omega); have Hhm := Lib.hid hm2; have HB2 := Lib.hid hB2; have HW2 := Lib.hid hW2; clear hm2 hkr hB2 hW2))
          go_region
          go_wp2
          refine bodyPost_ret (HFin.out (mq + 1) _ _ _ _ _ _ (by rfl) (by rfl) (by rfl) (by rfl)) rfl ⟨HR.out _ _ HX.out ?_, HGr.out (mq + 1) _ _ _ rfl⟩
          refine ⟨_, _, _, _, _, ?_, rfl, ?_, HW2.out.to q hlt2, ?_, HW2.out.from q⟩
          · rw [List.length_cons]; have := Hhm.out; omega
          · intro W hW
            have h1 := hW.from 1 (by omega)
            rw [List.drop_succ_cons, List.drop_zero] at h1
            have := (HB2.out W h1).to q hlt2
            rwa [show 1 + k = k + 1 by omega, List.drop_succ_cons]
          · intro W hW
            have h1 := hW.from 1 (by omega)
            rw [List.drop_succ_cons, List.drop_zero] at h1
            have := (HB2.out W h1).from q hlt2
            rw [List.drop_drop] at this
            rwa [show 1 + k + q = k + q + 1 by omega, List.drop_succ_cons]
end Go.Proofs.YtndgbhgalablfaaDoor
namespace Go.Proofs.YtndgbhgalablfaaDoor
open Go.RowKit

theorem run_loadBytes {P : Program} {w : World} {sb : Nat} (l : List Nat) : ∀ (so : Nat) (acc : List Nat), (∀ j, j < l.length → w.cell? ⟨sb, so + j, none⟩ = some (.int .u8 (l.getD j 0 : Nat))) → (∀ x ∈ l, x < 256) →
    (Extern.Bytes.loadBytes ⟨sb, so, none⟩ l.length (strOf acc)).run P w = .ok (strOf (acc ++ l)) w := by
  induction l with
  | nil => intro so acc _ _; rw [List.append_nil]; rfl
  | cons x r ih =>
    intro so acc h hlt
    have hx := hlt x (by simp)
    have h0 := h 0 (by simp)
    simp only [List.getD_cons_zero, Nat.add_zero] at h0
    rw [List.length_cons, Extern.Bytes.loadBytes]
    simp only [Sem.run_bind, run_load, h0, Result.andThen]
    rw [addr_addO]
    have e : (strOf acc).push (x : Int).toNat.toUInt8 = strOf (acc ++ [x]) := by
      rw [Int.toNat_natCast]
      simp [strOf, ByteArray.push]
    rw [e]
    have := ih (so + 1) (acc ++ [x]) (fun j hj => by have := h (j + 1) (by simp; omega); rw [Nat.add_assoc, Nat.add_comm 1 j, this]; simp) (fun y hy => hlt y (by simp [hy]))
    rw [this, List.append_assoc]
    rfl
theorem run_bytesOf {P : Program} {w : World} {v : Value} {l : List Nat} (hB : Bytes w v l) (h0 : Whole0 v) : (Extern.Bytes.bytesOf v).run P w = .ok (strOf l) w := by
  obtain ⟨hlt, a, sb, so, c, rfl, hc, ha, hcell⟩ := hB
  match a with
  | none =>
    obtain ⟨hn, _⟩ := h0 _ _ rfl
    obtain rfl := List.eq_nil_of_length_eq_zero hn
    rfl
  | some ad =>
    match l, ha, hcell, hlt, hc, h0 with
    | [], _, _, _, _, _ => rfl
    | x :: r, ha, hcell, hlt, _, _ =>
      obtain ⟨e, _⟩ := ha (by simp)
      obtain rfl := Option.some.inj e
      have := run_loadBytes (P := P) (w := w) (sb := sb) (x :: r) so [] hcell hlt
      rw [List.nil_append] at this
      exact this

set_option maxRecDepth 100000 in
theorem compare_any (v u : Value) (A B : List Nat) (w : World) (hA : Bytes w v A) (hB : Bytes w u B) (hv : Whole0 v) (hu : Whole0 u) :
    Calls Tryd.prog 73 #[v, u] w fun e w' => e = .returned (.int .i64 (Tl.cmpB A B)) ∧ w' = w := by
  have h77 : (callFunc 77 #[v, u]).run Tryd.prog w = .ok (.value (.int .i64 (Tl.cmpB A B))) w := by
    rw [@run_callFunc_extern Tryd.prog 77 _ Extern.BytealgCompare.compare Tryd.func77 (by kernel_rfl) (by kernel_rfl) (by kernel_rfl) (by kernel_rfl)]
    have e : Extern.BytealgCompare.compare #[v, u] = (do pure (goInt (Extern.BytealgCompare.cmp (← Extern.Bytes.bytesOf v) (← Extern.Bytes.bytesOf u)))) := rfl
    rw [e]
    simp only [Sem.run_bind, run_bytesOf hA hv, run_bytesOf hB hu, Result.andThen]
    rfl
  obtain ⟨_, va, _, _, vc, rfl, _⟩ := hA
  obtain ⟨_, ua, _, _, uc, rfl, _⟩ := hB
  generalize Tl.cmpB A B = c at *
  go_enter Tryd.func73, Tryd.ntmps73
  go_wp2
  go_ret
  exact ⟨rfl, rfl⟩

set_option maxRecDepth 100000 in
theorem clone_any (v : Value) (l : List Nat) (w : World) (hB : Bytes w v l) (h0 : Whole0 v) (hl : l.length ≤ 1099511620000) :
    Calls Tryd.prog 45 #[v] w fun e w' => ∃ u, e = .returned u ∧ FrW w w' u l ∧ ∃ a c, u = .slice a l.length c := by
  have HB := Lib.hid hB
  have H0 := Lib.hid h0
  obtain ⟨hlt, a, sb, so, c, rfl, hc, ha, hcell⟩ := hB
  have Hlt := Lib.hid hlt
  obtain ⟨n, hn⟩ : ∃ n, n = l.length := ⟨_, rfl⟩
  have HN := Lib.hid hn
  rw [← hn] at HB H0 hl ⊢
  clear hlt hc ha hcell
  have heq : ∀ (w : World) (a : Option Addr), (binOp .eql 22 (.slice a n c) (.slice none 0 0)).run Tryd.prog w = .ok (.bool a.isNone) w := fun w a => Lib.run_eql_slice_nil w 22 5 a n c 0 0 Tryd.underlying22
  match a, HB, H0, h0 with
  | none, HB, H0, h0 =>
    obtain ⟨h1, h2⟩ := h0 _ _ rfl
    have hl0 : l = [] := List.eq_nil_of_length_eq_zero (by rw [← hn]; omega)
    subst hl0
    obtain rfl : n = 0 := hn
    subst h2
    clear h0
    go_enter Tryd.func45, Tryd.ntmps45
    go_wp2
    go_ret
    exact ⟨_, rfl, ⟨grown_refl _ _, ownsRow_empty _ _ _⟩, _, _, rfl⟩
  | some ad, HB, H0, h0 =>
    clear h0 hn
    have F1 : Hid (FrW w (w.alloc (.cells #[] 5)) (.slice (some ⟨w.heap.size, 0, none⟩) 0 0) []) := Lib.hid ⟨World.grownBy_alloc _ _ _, ownsRow_lit (alloc_at w _) (Nat.le_refl _) (by simp)⟩
    go_enter Tryd.func45, Tryd.ntmps45
    go_wp2_with (at_builtin; refine wpList_appB (by rfl) (.tmp 5) (.tmp 6) 22 (by rfl) w.heap.size 5 (.int .u8 0) 1 Tryd.underlying22 (by kernel_rfl) rfl (by decide) _ 0 [] (by rfl) F1.out.own _ l (by rfl) (HB.out.grown F1.out.grown) H0.out (by rw [← HN.out]; omega) F1.out.le ?_; intro v2 w2 ho2 hg2; have F2 := Lib.hid (F1.out.step (l' := l) ho2 hg2 rfl); have HO2 := Lib.hid ho2; clear ho2 hg2)
    go_ret
    obtain ⟨a2, _, c2, rfl, _⟩ := ownsRow_form F2.out.own
    exact ⟨_, rfl, F2.out, a2, c2, by rw [HN.out]; rfl⟩
end Go.Proofs.YtndgbhgalablfaaDoor
