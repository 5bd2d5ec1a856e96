import Derived.Test.YtihioekepflpiaaGreatDoorZb16
import Derived.Test.YtihioekepflpiaaGreatDoorZb22
import Derived.Test.YtihioekepflpiaaGreatDoorZb32
set_option linter.unusedVariables false
set_option linter.unusedSimpArgs false
namespace Go.Proofs.YtihioekepflpiaaGreatDoor
open Go.RowKit Bu
theorem refID_any (s : ByteArray) (w : World) (hs : s.size ≤ 1000) :
    Calls Tryz.prog 72 #[.string s] w fun e w' => e = .returned (.bool (okKey s)) ∧ w.grownBy w' none := by
  have HB := Lib.hid (refBytes_any s w (by omega))
  obtain ⟨K, hK⟩ : ∃ K, K = okKey s := ⟨_, rfl⟩
  rw [← hK]
  unfold okKey at hK
  unfold RbPost at HB
  have HK := Lib.hid hK
  clear hK hs
  go_enter Tryz.func72, Tryz.ntmps72
  go_wp2_with (go_at_call 97; refine HB.out.mono ?_; rintro e w1 ⟨hp, hg⟩; have HG := Lib.hid hg; clear hg; rcases hp with ⟨h1, rfl⟩ | ⟨h1, a, m, c, rfl, -⟩)
  · go_wp2
    go_ret
    exact ⟨by rw [HK.out, h1, Bool.and_false]; rfl, HG.out⟩
  · go_wp2
    go_ret
    exact ⟨by rw [HK.out, h1, Bool.and_true]; rfl, HG.out⟩
set_option maxRecDepth 100000 in
set_option maxHeartbeats 8000000 in
theorem refRightB_any (v : Int) (sp : ByteArray) (a : Value) (l : List An) (w : World) (hA : Ans w a l) (hl : l.length ≤ 2000) (hk : ∀ x ∈ l, x.k.size ≤ 1000) (hsp : sp.size ≤ 1000) :
    Calls Tryz.prog 47 #[bval v sp a] w fun e w' => e = .returned (.bool (right ⟨v, sp, l⟩)) ∧ w.grownBy w' none := by
  obtain ⟨w1, hw1⟩ : ∃ w1, w1 = w.alloc (.cells #[.int .i64 v, .string sp, a] 30) := ⟨_, rfl⟩
  have hg1 : w.grownBy w1 none := by rw [hw1]; exact World.grownBy_alloc _ _ _
  have b0 : w1.heap[w.heap.size]? = some (.cells #[.int .i64 v, .string sp, a] 30 (0, 0)) := by rw [hw1]; exact alloc_at _ _
  obtain ⟨a1, g1, s1, c1, rfl, ha1, _, hx1⟩ := (hA.grown hg1).form
  have HW1 := Lib.hid hw1
  have HG1 := Lib.hid hg1
  have HLb := Lib.hid (fun W => refLabel_any sp (by omega) W)
  have hr : right ⟨v, sp, l⟩ = (decide (1 ≤ v ∧ v ≤ 1099511627776) && (Pt.label (strL sp) && (decide (1 ≤ l.length ∧ l.length ≤ 8) && docA [] l))) := rfl
  obtain ⟨R0, hR0⟩ : ∃ R0, R0 = right ⟨v, sp, l⟩ := ⟨_, rfl⟩
  rw [← hR0]
  rw [hr] at hR0
  clear hr
  unfold bval
  obtain ⟨n, hn⟩ : ∃ n, n = l.length := ⟨_, rfl⟩
  rw [← hn] at hR0 b0 HW1 ⊢
  have HB0 := Lib.hid b0
  by_cases hv1 : v < 1
  · have HR0 : Hid (R0 = false) := Lib.hid (by rw [hR0, decide_eq_false (by omega), Bool.false_and])
    clear hA hl hk hsp hw1 hg1 b0 ha1 hx1 hn hR0 HLb
    go_enter Tryz.func47, Tryz.ntmps47
    go_wp2
    go_ret
    exact ⟨by rw [HR0.out]; first | done | rfl, by rw [← HW1.out]; exact HG1.out⟩
  by_cases hv2 : 1099511627776 < v
  · have HR0 : Hid (R0 = false) := Lib.hid (by rw [hR0, decide_eq_false (by omega), Bool.false_and])
    clear hA hl hk hsp hw1 hg1 b0 ha1 hx1 hn hR0 HLb
    go_enter Tryz.func47, Tryz.ntmps47
    go_wp2
    go_ret
    exact ⟨by rw [HR0.out]; first | done | rfl, by rw [← HW1.out]; exact HG1.out⟩
  rw [decide_eq_true (by omega), Bool.true_and] at hR0
  cases hlb : Pt.label (strL sp) with
  | false =>
    rw [hlb] at HLb
    have HR0 : Hid (R0 = false) := Lib.hid (by rw [hR0, hlb, Bool.false_and])
    clear hA hl hk hsp hw1 hg1 b0 ha1 hx1 hn hR0 hlb
    go_enter Tryz.func47, Tryz.ntmps47
    go_wp2_with (go_at_call 71; refine (HLb.out _).mono ?_; rintro e w2 ⟨rfl, rfl⟩)
    go_ret
    exact ⟨by rw [HR0.out]; first | done | rfl, by rw [← HW1.out]; exact HG1.out⟩
  | true =>
    rw [hlb] at HLb
    rw [hlb, Bool.true_and] at hR0
    by_cases h0 : n = 0
    · subst h0
      have HR0 : Hid (R0 = false) := Lib.hid (by rw [hR0, decide_eq_false (by omega), Bool.false_and])
      clear hA hl hk hsp hw1 hg1 b0 ha1 hx1 hn hR0 hlb
      go_enter Tryz.func47, Tryz.ntmps47
      go_wp2_with (go_at_call 71; refine (HLb.out _).mono ?_; rintro e w2 ⟨rfl, rfl⟩)
      go_ret
      exact ⟨by rw [HR0.out]; first | done | rfl, by rw [← HW1.out]; exact HG1.out⟩
    have hn0 : ¬ (n : Int) = 0 := by omega
    by_cases h8 : 8 < n
    · have h8' : (8 : Int) < (n : Int) := by omega
      have HR0 : Hid (R0 = false) := Lib.hid (by rw [hR0, decide_eq_false (by omega), Bool.false_and])
      clear hA hl hk hsp hw1 hg1 b0 ha1 hx1 hn hR0 hlb
      go_enter Tryz.func47, Tryz.ntmps47
      go_wp2_with (go_at_call 71; refine (HLb.out _).mono ?_; rintro e w2 ⟨rfl, rfl⟩)
      go_ret
      exact ⟨by rw [HR0.out]; first | done | rfl, by rw [← HW1.out]; exact HG1.out⟩
    have h8' : ¬ (8 : Int) < (n : Int) := by omega
    have hnb : ((n : Int) == 0) = false := by rw [beq_eq_false_iff_ne]; exact hn0
    have h8d : decide ((8 : Int) < (n : Int)) = false := decide_eq_false h8'
    rw [decide_eq_true (by omega), Bool.true_and] at hR0
    have HX1 := Lib.hid (Ans.cells_at ha1 hx1)
    have HA1 : Hid (0 < n → a1 = some ⟨g1, s1, none⟩) := Lib.hid (fun h => (ha1 (by omega)).1)
    have HKs : Hid (∀ i, i < n → (l.getD i an0).k.size ≤ 1000) := Lib.hid (fun i hi => hk _ (by rw [List.getD_eq_getElem?_getD, List.getElem?_eq_getElem (by omega)]; exact List.getElem_mem _))
    have HSt : Hid (∀ j, j < n → docA (l.take j) (l.drop j) = (okAt (l.take j) (l.getD j an0) && docA (l.take (j + 1)) (l.drop (j + 1)))) := Lib.hid (fun j hj => docA_step (by omega))
    have HEnd : Hid (docA (l.take n) (l.drop n) = true) := Lib.hid (by rw [hn]; exact docA_end l)
    have HAll : Hid (∀ j, j ≤ n → ∀ P : An → Bool, (∀ i, i < j → P (l.getD i an0) = true) → (l.take j).all P = true) := Lib.hid (fun j hj P hp => by
      rw [List.all_eq_true]
      intro b hb
      obtain ⟨i, hi, rfl⟩ := mem_take_at (by omega) hb
      exact hp i hi)
    have HAny : Hid (∀ j i, i < j → j ≤ n → ∀ P : An → Bool, P (l.getD i an0) = false → (l.take j).all P = false) := Lib.hid (fun j i hi hj P hp => by
      rw [List.all_eq_false]
      exact ⟨_, at_mem_take hi (by omega), by rw [hp]; decide⟩)
    rw [← hn] at HX1
    obtain rfl := HA1.out (by omega)
    have HD0 : Hid (docA (l.take 0) (l.drop 0) = R0) := Lib.hid (by rw [docA_start, hR0])
    clear hA hl hk hsp hw1 hg1 b0 ha1 hx1 hn hR0 hlb HA1
    have hI := ran_info
    go_enter Tryz.func47, Tryz.ntmps47
    go_wp2_with (go_at_call 71; refine (HLb.out _).mono ?_; rintro e w2 ⟨rfl, rfl⟩)
    rw [← HW1.out]
    go_loopw [35, 3] (fun i _ wr => ∃ j : Nat, j ≤ n ∧ i = .int .i64 (j : Int) ∧ w1.grownBy wr none ∧ docA (l.take j) (l.drop j) = R0) (fun i _ _ => n - (intOf i).toNat)
    case atStart => exact ⟨0, Nat.zero_le _, rfl, grown_refl _ _, HD0.out⟩
    case round =>
      obtain ⟨j, hj, rfl, hG, hD⟩ := hrel
      have HG := Lib.hid hG
      have HD := Lib.hid hD
      clear hG hD
      by_cases hjn : j < n
      · obtain ⟨c0, c1', c2, c3⟩ := HX1.out wr HG.out j hjn
        have HKx := Lib.hid (HKs.out j hjn)
        have HStj := Lib.hid (HSt.out j hjn)
        have HAl := Lib.hid (HAll.out j (by omega))
        have HAn := Lib.hid (fun i hi => HAny.out j i hi (by omega))
        obtain ⟨x, hx⟩ : ∃ x, x = l.getD j an0 := ⟨_, rfl⟩
        rw [← hx] at c0 c1' c2 c3 HKx HStj
        have HOk : Hid (okAn x = (okKey x.k && (decide (1 ≤ x.g ∧ x.g ≤ 1048576) && decide (0 ≤ x.f ∧ x.f ≤ x.t ∧ x.t ≤ 253402300799)))) := Lib.hid rfl
        have HRf : Hid (okAn x = false → R0 = false) := Lib.hid (fun h => by rw [← HD.out, HStj.out]; unfold okAt; rw [h]; rfl)
        have HRt : Hid (okAn x = true → ((l.take j).all (fun b => decide (b.g < x.g) && decide (b.k ≠ x.k)) = false → R0 = false) ∧ ((l.take j).all (fun b => decide (b.g < x.g) && decide (b.k ≠ x.k)) = true → docA (l.take (j + 1)) (l.drop (j + 1)) = R0)) := Lib.hid (fun h => ⟨fun h2 => by rw [← HD.out, HStj.out]; unfold okAt; rw [h, h2]; rfl, fun h2 => by rw [← HD.out, HStj.out]; unfold okAt; rw [h, h2]; rfl⟩)
        have HID0 := Lib.hid (fun W => refID_any x.k W HKx.out)
        obtain ⟨xg, hxg⟩ : ∃ xg, xg = x.g := ⟨_, rfl⟩
        obtain ⟨xk, hxk⟩ : ∃ xk, xk = x.k := ⟨_, rfl⟩
        obtain ⟨xf, hxf⟩ : ∃ xf, xf = x.f := ⟨_, rfl⟩
        obtain ⟨xt, hxt⟩ : ∃ xt, xt = x.t := ⟨_, rfl⟩
        rw [← hxg] at c0 HOk HRt
        rw [← hxk] at c1' HOk HRt HID0
        rw [← hxf] at c2 HOk
        rw [← hxt] at c3 HOk
        have B5 := Lib.hid (alloc_at wr (.cells #[.int .i64 xg, .string xk, .int .i64 xf, .int .i64 xt] 42))
        have G5 := Lib.hid (grown_alloc HG.out (.cells #[.int .i64 xg, .string xk, .int .i64 xf, .int .i64 xt] 42))
        clear hx hxg hxk hxf hxt
        by_cases e1 : xg < 1
        · have HR := Lib.hid (HRf.out (by rw [HOk.out, decide_eq_false (show ¬ (1 ≤ xg ∧ xg ≤ 1048576) by omega)]; simp))
          go_wp2
          go_ret
          exact ⟨by rw [HR.out]; first | done | rfl, grown_trans HG1.out G5.out⟩
        by_cases e2 : 1048576 < xg
        · have HR := Lib.hid (HRf.out (by rw [HOk.out, decide_eq_false (show ¬ (1 ≤ xg ∧ xg ≤ 1048576) by omega)]; simp))
          go_wp2
          go_ret
          exact ⟨by rw [HR.out]; first | done | rfl, grown_trans HG1.out G5.out⟩
        cases hK : okKey xk with
        | false =>
          have HID : Hid (∀ W, Calls Tryz.prog 72 #[.string xk] W fun e w' => e = .returned (.bool false) ∧ W.grownBy w' none) := Lib.hid (fun W => by rw [← hK]; exact HID0.out W)
          have HR := Lib.hid (HRf.out (by rw [HOk.out, hK]; rfl))
          clear hK
          go_wp2_with (go_at_call 72; refine (HID.out _).mono ?_; rintro e w6 ⟨rfl, hg6⟩; have hb6 := hold_b3 B5.out hg6; have d2 := cell_blk hb6 2 rfl; have d3 := cell_blk hb6 3 rfl; have d0 := cell_blk hb6 0 rfl; have d1 := cell_blk hb6 1 rfl; have B6 := Lib.hid hb6; have G6 := Lib.hid (grown_trans G5.out hg6); clear hg6 hb6)
          go_ret
          exact ⟨by rw [HR.out]; first | done | rfl, grown_trans HG1.out G6.out⟩
        | true =>
          have HID : Hid (∀ W, Calls Tryz.prog 72 #[.string xk] W fun e w' => e = .returned (.bool true) ∧ W.grownBy w' none) := Lib.hid (fun W => by rw [← hK]; exact HID0.out W)
          rw [hK, decide_eq_true (show 1 ≤ xg ∧ xg ≤ 1048576 by omega), Bool.true_and, Bool.true_and] at HOk
          clear hK
          by_cases e3 : xf < 0
          · have HR := Lib.hid (HRf.out (by rw [HOk.out, decide_eq_false (by omega)]))
            go_wp2_with (go_at_call 72; refine (HID.out _).mono ?_; rintro e w6 ⟨rfl, hg6⟩; have hb6 := hold_b3 B5.out hg6; have d2 := cell_blk hb6 2 rfl; have d3 := cell_blk hb6 3 rfl; have d0 := cell_blk hb6 0 rfl; have d1 := cell_blk hb6 1 rfl; have B6 := Lib.hid hb6; have G6 := Lib.hid (grown_trans G5.out hg6); clear hg6 hb6)
            go_ret
            exact ⟨by rw [HR.out]; first | done | rfl, grown_trans HG1.out G6.out⟩
          by_cases e4 : xt < xf
          · have HR := Lib.hid (HRf.out (by rw [HOk.out, decide_eq_false (by omega)]))
            go_wp2_with (go_at_call 72; refine (HID.out _).mono ?_; rintro e w6 ⟨rfl, hg6⟩; have hb6 := hold_b3 B5.out hg6; have d2 := cell_blk hb6 2 rfl; have d3 := cell_blk hb6 3 rfl; have d0 := cell_blk hb6 0 rfl; have d1 := cell_blk hb6 1 rfl; have B6 := Lib.hid hb6; have G6 := Lib.hid (grown_trans G5.out hg6); clear hg6 hb6)
            go_ret
            exact ⟨by rw [HR.out]; first | done | rfl, grown_trans HG1.out G6.out⟩
          by_cases e5 : 253402300799 < xt
          · have HR := Lib.hid (HRf.out (by rw [HOk.out, decide_eq_false (by omega)]))
            go_wp2_with (go_at_call 72; refine (HID.out _).mono ?_; rintro e w6 ⟨rfl, hg6⟩; have hb6 := hold_b3 B5.out hg6; have d2 := cell_blk hb6 2 rfl; have d3 := cell_blk hb6 3 rfl; have d0 := cell_blk hb6 0 rfl; have d1 := cell_blk hb6 1 rfl; have B6 := Lib.hid hb6; have G6 := Lib.hid (grown_trans G5.out hg6); clear hg6 hb6)
            go_ret
            exact ⟨by rw [HR.out]; first | done | rfl, grown_trans HG1.out G6.out⟩
          obtain ⟨HRn, HRy⟩ := HRt.out (by rw [HOk.out, decide_eq_true (by omega)])
          have HRn := Lib.hid HRn
          have HRy := Lib.hid HRy
          go_wp2_with (go_at_call 72; refine (HID.out _).mono ?_; rintro e w6 ⟨rfl, hg6⟩; have hb6 := hold_b3 B5.out hg6; have d2 := cell_blk hb6 2 rfl; have d3 := cell_blk hb6 3 rfl; have d0 := cell_blk hb6 0 rfl; have d1 := cell_blk hb6 1 rfl; have B6 := Lib.hid hb6; have G6 := Lib.hid (grown_trans G5.out hg6); clear hg6 hb6)
          go_loopw [5] (fun jv wr2 => ∃ i : Nat, i ≤ j ∧ jv = .int .i64 (i : Int) ∧ w6.grownBy wr2 none ∧ ∀ p, p < i → ((l.getD p an0).g < xg ∧ (l.getD p an0).k ≠ xk)) (fun jv _ => j - (intOf jv).toNat)
          case atStart => exact ⟨0, Nat.zero_le _, rfl, grown_refl _ _, fun p hp => absurd hp (Nat.not_lt_zero _)⟩
          case round =>
            obtain ⟨i, hi, rfl, hgi, hpi⟩ := hrel
            have HGi := Lib.hid (grown_trans G6.out hgi)
            have HGi0 := Lib.hid hgi
            have HPi := Lib.hid hpi
            have hb7 := hold_b3 B6.out hgi
            have f0 := cell_blk hb7 0 rfl
            have f1 := cell_blk hb7 1 rfl
            have hb8 := hold_b3 HB0.out HGi.out
            have f2 := cell_blk hb8 2 rfl
            clear hgi hpi hb7 hb8 d0 d1 d2 d3 c0 c1' c2 c3
            by_cases hij : i < j
            · obtain ⟨y0, y1, y2, y3⟩ := HX1.out _ HGi.out i (by omega)
              have hin : (i : Int) < (n : Int) := by omega
              have HNo : Hid (¬ ((l.getD i an0).g < xg ∧ (l.getD i an0).k ≠ xk) → R0 = false) := Lib.hid (fun h => HRn.out (HAn.out i hij _ (by
                rw [Bool.and_eq_false_iff, decide_eq_false_iff_not, decide_eq_false_iff_not]
                by_cases h1 : (l.getD i an0).g < xg
                · exact .inr (fun h2 => h ⟨h1, h2⟩)
                · exact .inl h1)))
              have HYs : Hid ((l.getD i an0).g < xg ∧ (l.getD i an0).k ≠ xk → ∀ p, p < i + 1 → ((l.getD p an0).g < xg ∧ (l.getD p an0).k ≠ xk)) := Lib.hid (fun h p hp => by
                rcases Nat.lt_or_ge p i with h1 | h1
                · exact HPi.out p h1
                · obtain rfl : p = i := by omega
                  exact h)
              generalize (l.getD i an0).g = yg at *
              generalize (l.getD i an0).k = yk at *
              generalize (l.getD i an0).f = yf at *
              generalize (l.getD i an0).t = yt at *
              by_cases hge : xg ≤ yg
              · have HR := Lib.hid (HNo.out (fun h => by have := h.1; omega))
                go_wp2
                go_quiet (fail)
                go_wp2
                go_ret
                exact ⟨by rw [HR.out]; first | done | rfl, grown_drewN (grown_trans HG1.out HGi.out) _⟩
              · by_cases hke : yk = xk
                · have HR := Lib.hid (HNo.out (fun h => h.2 hke))
                  subst hke
                  go_wp2
                  go_quiet (fail)
                  go_wp2
                  go_ret
                  exact ⟨by rw [HR.out]; first | done | rfl, grown_drewN (grown_trans HG1.out HGi.out) _⟩
                · have hk2 : ¬ yk.toList = xk.toList := fun h => hke (strT_inj h)
                  have hkb : (yk.toList == xk.toList) = false := by rw [beq_str, decide_eq_false hke]
                  have hgd : decide (xg ≤ yg) = false := decide_eq_false hge
                  have hgd2 : decide (yg ≥ xg) = false := decide_eq_false hge
                  have HN2 := Lib.hid (HYs.out ⟨by omega, hke⟩)
                  go_wp2
                  go_quiet (fail)
                  go_wp2
                  go_roundw
                  case rel => exact ⟨i + 1, by omega, by go_num, grown_drewN HGi0.out _, HN2.out⟩
                  case measure => simp [intOf] <;> omega
            · obtain rfl : i = j := by omega
              have HDn := Lib.hid (HRy.out (HAl.out _ (fun p hp => by
                obtain ⟨h1, h2⟩ := HPi.out p hp
                rw [Bool.and_eq_true, decide_eq_true_eq, decide_eq_true_eq]
                exact ⟨h1, h2⟩)))
              go_wp2
              go_roundw
              case rel => exact ⟨i + 1, by omega, by go_num, HGi.out, HDn.out⟩
              case measure => simp [intOf] <;> omega
      · obtain rfl : j = n := by omega
        have HR : Hid (R0 = true) := Lib.hid (by rw [← HD.out, HEnd.out])
        go_wp2
        go_ret
        exact ⟨by rw [HR.out]; first | done | rfl, grown_trans HG1.out HG.out⟩
end Go.Proofs.YtihioekepflpiaaGreatDoor
namespace Go.Proofs.YtihioekepflpiaaGreatDoor
open Go.RowKit Bu
theorem rbd_info : (Tryz.prog.info? 30).map (·.size) = some 3 := by kernel_rfl
/-- What the document's next answers. -/
def nextN (v : Int) (sp : ByteArray) (a : Value) (l : List An) : Value :=
  if right ⟨v + 1, sp, l⟩ = true then .tuple #[bval (v + 1) sp a, .int .i64 0] else .tuple #[bval 0 ⟨#[]⟩ (.slice none 0 0), .int .i64 4]
theorem right_lt {v : Int} {sp : ByteArray} {l : List An} (h : 1099511627776 < v) : right ⟨v, sp, l⟩ = false := by
  unfold right
  rw [decide_eq_false (by show ¬ (1 ≤ v ∧ v ≤ 1099511627776); omega), Bool.false_and]
set_option maxRecDepth 100000 in
set_option maxHeartbeats 8000000 in
theorem refNextB_any (v : Int) (sp : ByteArray) (ao a : Value) (lo l : List An) (w : World) (hAo : Ans w ao lo) (hA : Ans w a l) (hl : l.length ≤ 2000) (hk : ∀ x ∈ l, x.k.size ≤ 1000) (hsp : sp.size ≤ 1000) (hv : -9223372036854775808 ≤ v) :
    Calls Tryz.prog 25 #[bval v sp ao, a] w fun e w' => e = .returned (nextN v sp a l) ∧ w.grownBy w' none := by
  obtain ⟨ao0, go, oo, co, rfl, -, -, -⟩ := hAo.form
  have HRt := Lib.hid (fun W (hg : w.grownBy W none) => refRightB_any (v + 1) sp a l W (hA.grown hg) hl hk hsp)
  obtain ⟨a0, g, o, c, rfl, -, -, -⟩ := hA.form
  obtain ⟨n, hn⟩ : ∃ n, n = l.length := ⟨_, rfl⟩
  obtain ⟨no, hno⟩ : ∃ no, no = lo.length := ⟨_, rfl⟩
  rw [← hn] at HRt ⊢
  rw [← hno]
  have hI := rbd_info
  unfold nextN
  by_cases hv2 : 1099511627776 < v
  · rw [if_neg (by rw [right_lt (by omega)]; decide)]
    obtain ⟨w3, hw3⟩ : ∃ w3, w3 = ((w.alloc (.cells #[.int .i64 v, .string sp, .slice ao0 no co] 30)).alloc (.cells #[.int .i64 0, .string ⟨#[]⟩, .slice none 0 0] 30)).alloc (.cells #[.int .i64 v, .string sp, .slice a0 n c] 30) := ⟨_, rfl⟩
    have HG : Hid (w.grownBy w3 none) := Lib.hid (by rw [hw3]; exact grown_alloc (grown_alloc (World.grownBy_alloc _ _ _) _) _)
    have hz : w3.heap[w.heap.size + 1]? = some (.cells #[.int .i64 0, .string ⟨#[]⟩, .slice none 0 0] 30 (0, 0)) := by rw [hw3]; exact alloc_keep (alloc2_new _ _ _)
    have HZ := Lib.hid hz
    have HW := Lib.hid hw3
    unfold bval
    clear hAo hA hl hk hsp hn hno HRt hw3 hz
    go_enter Tryz.func25, Tryz.ntmps25
    go_wp2
    refine bodyPost_ret (v := .tuple #[.agg #[.int .i64 0, .string ⟨#[]⟩, .slice none 0 0], .int .i64 4]) ?_ rfl ⟨rfl, ?_⟩
    · exact results_rowT Tryz.results25 _ _ (w.heap.size + 1) _ _ (0, 0) _ _ rfl (by first | (rw [← HW.out]; exact set3 HZ.out) | (rw [← HW.out]; exact HZ.out)) Tryz.underlying30 rfl hI rfl
    · first
        | (rw [← HW.out]; exact grown_set (grown_set (grown_set HG.out (.inl (Nat.le_succ _)) _) (.inl (Nat.le_succ _)) _) (.inl (Nat.le_succ _)) _)
        | (rw [← HW.out]; exact HG.out)
  · have hw64 : wrap64 (v + 1) = v + 1 := by unfold wrap64; omega
    obtain ⟨w4, hw4⟩ : ∃ w4, w4 = ((w.alloc (.cells #[.int .i64 v, .string sp, .slice ao0 no co] 30)).alloc (.cells #[.int .i64 0, .string ⟨#[]⟩, .slice none 0 0] 30)).alloc (.cells #[.int .i64 (v + 1), .string sp, .slice a0 n c] 30) := ⟨_, rfl⟩
    have hg4 : w.grownBy w4 none := by rw [hw4]; exact grown_alloc (grown_alloc (World.grownBy_alloc _ _ _) _) _
    have hz : w4.heap[w.heap.size + 1]? = some (.cells #[.int .i64 0, .string ⟨#[]⟩, .slice none 0 0] 30 (0, 0)) := by rw [hw4]; exact alloc_keep (alloc2_new _ _ _)
    have hb : w4.heap[w.heap.size + 2]? = some (.cells #[.int .i64 (v + 1), .string sp, .slice a0 n c] 30 (0, 0)) := by
      rw [hw4]
      have := alloc_at ((w.alloc (.cells #[.int .i64 v, .string sp, .slice ao0 no co] 30)).alloc (.cells #[.int .i64 0, .string ⟨#[]⟩, .slice none 0 0] 30)) (.cells #[.int .i64 (v + 1), .string sp, .slice a0 n c] 30)
      rw [alloc_size, alloc_size] at this; exact this
    have HZ4 := Lib.hid hz
    have HB4 := Lib.hid hb
    have HG4 := Lib.hid hg4
    have HW4 := Lib.hid hw4
    unfold bval at HRt ⊢
    clear hAo hA hl hk hsp hn hno hw4 hz hb hg4
    cases hrt : right ⟨v + 1, sp, l⟩ with
    | true =>
      rw [hrt] at HRt
      rw [if_pos rfl]
      clear hrt
      go_enter Tryz.func25, Tryz.ntmps25
      go_wp2_with (first
        | (go_at_call 47; rw [← HW4.out]; refine (HRt.out _ HG4.out).mono ?_; rintro e w5 ⟨rfl, hg5⟩; have HB5 := Lib.hid (hold_b3 HB4.out hg5); have HZ5 := Lib.hid (hold_b3 HZ4.out hg5); have HG5 := Lib.hid (grown_trans HG4.out hg5); have y0 := free_blk HZ5.out 0; have y1 := free_blk HZ5.out 1; have y2 := free_blk HZ5.out 2; have z0 := cell_blk HZ5.out 0 rfl; have z1 := cell_blk HZ5.out 1 rfl; have z2 := cell_blk HZ5.out 2 rfl; clear hg5)
        | (refine wpList_load_row (by rfl) 30 (.tmp 6) (by rfl) (w.heap.size + 2) (by rfl) 30 #[.int .i64 (v + 1), .string sp, .slice a0 n c] (0, 0) _ HB5.out Tryz.underlying30 rfl hI ?_))
      refine bodyPost_ret (v := .tuple #[.agg #[.int .i64 (v + 1), .string sp, .slice a0 n c], .int .i64 0]) ?_ rfl ⟨rfl, grown_set (grown_set (grown_set HG5.out (.inl (Nat.le_succ _)) _) (.inl (Nat.le_succ _)) _) (.inl (Nat.le_succ _)) _⟩
      exact results_rowT Tryz.results25 _ _ (w.heap.size + 1) _ _ (0, 0) _ _ rfl (set3 HZ5.out) Tryz.underlying30 rfl hI rfl
    | false =>
      rw [hrt] at HRt
      rw [if_neg (by decide)]
      clear hrt
      go_enter Tryz.func25, Tryz.ntmps25
      go_wp2_with (go_at_call 47; rw [← HW4.out]; refine (HRt.out _ HG4.out).mono ?_; rintro e w5 ⟨rfl, hg5⟩; have HB5 := Lib.hid (hold_b3 HB4.out hg5); have HZ5 := Lib.hid (hold_b3 HZ4.out hg5); have HG5 := Lib.hid (grown_trans HG4.out hg5); have y0 := free_blk HZ5.out 0; have y1 := free_blk HZ5.out 1; have y2 := free_blk HZ5.out 2; have z0 := cell_blk HZ5.out 0 rfl; have z1 := cell_blk HZ5.out 1 rfl; have z2 := cell_blk HZ5.out 2 rfl; clear hg5)
      refine bodyPost_ret (v := .tuple #[.agg #[.int .i64 0, .string ⟨#[]⟩, .slice none 0 0], .int .i64 4]) ?_ rfl ⟨rfl, grown_set (grown_set (grown_set HG5.out (.inl (Nat.le_succ _)) _) (.inl (Nat.le_succ _)) _) (.inl (Nat.le_succ _)) _⟩
      exact results_rowT Tryz.results25 _ _ (w.heap.size + 1) _ _ (0, 0) _ _ rfl (set3 HZ5.out) Tryz.underlying30 rfl hI rfl
end Go.Proofs.YtihioekepflpiaaGreatDoor
