import Derived.Test.YtgahhbompnbcdaaGreatDoorZf08
import Derived.Test.YtgahhbompnbcdaaGreatDoorZf21
import Derived.Test.YtgahhbompnbcdaaGreatDoorZf26
import Derived.Test.YtgahhbompnbcdaaGreatDoorZf27
import Derived.Test.YtgahhbompnbcdaaGreatDoorZf28
set_option linter.unusedVariables false
set_option linter.unusedSimpArgs false
namespace Go.Proofs.YtgahhbompnbcdaaGreatDoor
open Go.RowKit
set_option maxRecDepth 100000 in
theorem numFig_any (A : Nat → Addr) (s : ByteArray) (tp : TypeId) (p : Value) (w : World) (hF : Figs w tp p) (hE : RFErrs w A) :
    Calls Tryz.prog 195 #[.string s] w fun e w' => e = .returned (.tuple (encN A (Od.numOf (strL s)))) ∧ w.grownBy w' none := by
  by_cases hl : 10 < s.size
  · have hx : encN A (Od.numOf (strL s)) = #[.int .i64 0, errV A 4] := by
      rw [Od.numOf, Od.part, if_neg (by rw [strL_len]; omega)]
      rfl
    rw [hx]
    have eF := hE.form
    clear hF hE hx
    go_enter Tryz.func195, Tryz.ntmps195
    go_wp2
    go_quiet (fail)
    go_wp2
    go_ret2
    exact ⟨rfl, grown_drewN (grown_refl _ _) _⟩
  · have hx : encN A (Od.numOf (strL s)) = #[.int .i64 (figRes (strL s)).1, errOf A (figRes (strL s)).2] := by
      rw [Od.numOf, Od.part, figRes]
      by_cases hf : Wh.figs (strL s) = true
      · rw [if_pos ⟨hf, by rw [strL_len]; omega⟩, if_pos hf]
        rfl
      · rw [if_neg (fun h => hf h.1), if_neg hf]
        rfl
    rw [hx]
    have HW := Lib.hid (figures_any A s tp p w hF hE)
    generalize errOf A (figRes (strL s)).2 = E at *
    generalize (figRes (strL s)).1 = n at *
    clear hF hE hx
    go_enter Tryz.func195, Tryz.ntmps195
    go_wp2_with (go_at_call 214; refine HW.out.mono ?_; rintro e w1 ⟨rfl, hg1⟩; have HG1 := Lib.hid hg1; clear hg1)
    go_ret2
    exact ⟨rfl, HG1.out⟩
theorem right_in {l : List Int} {x y : Int} (h2 : 2 ≤ l.length) (h16 : l.length ≤ 16) (hx : l.getD 0 0 = x) (hy : l.getD 1 0 = y) (hall : ∀ j, j < l.length → 0 ≤ l.getD j 0 ∧ l.getD j 0 ≤ 2147483647) :
    Od.right l = ((decide (x < 2) && decide (y < 40)) || decide (x = 2)) := by
  have h0 := (hall 0 (by omega)).1
  rw [hx] at h0
  rw [Bool.eq_iff_iff, Od.right_iff, hx, hy]
  simp only [Bool.or_eq_true, Bool.and_eq_true, decide_eq_true_eq]
  constructor
  · rintro ⟨⟨_, _, _, h3, h4⟩, _⟩; omega
  · intro h
    refine ⟨⟨h2, h16, h0, by omega, by omega⟩, fun n hn => ?_⟩
    obtain ⟨j, hj, rfl⟩ := List.getElem_of_mem hn
    have := hall j hj
    rw [List.getD_eq_getElem?_getD, List.getElem?_eq_getElem hj] at this
    exact this
theorem right_out {l : List Int} (j : Nat) (hj : j < l.length) (h : ¬ (0 ≤ l.getD j 0 ∧ l.getD j 0 ≤ 2147483647)) : Od.right l = false := by
  rw [← Bool.not_eq_true]; intro e
  refine h (((Od.right_iff l).1 e).2 _ ?_)
  rw [List.getD_eq_getElem?_getD, List.getElem?_eq_getElem hj]
  exact List.getElem_mem hj
theorem right_len {l : List Int} (h : l.length < 2 ∨ 16 < l.length) : Od.right l = false := by
  rw [← Bool.not_eq_true]; intro e
  have := ((Od.right_iff l).1 e).1
  omega
set_option maxRecDepth 100000 in
set_option maxHeartbeats 1000000 in
theorem isId_any (v : Value) (l : List Int) (w : World) (hI : Ints w v l) (hl : l.length ≤ 1099511620000) :
    Calls Tryz.prog 174 #[v] w fun e w' => e = .returned (.bool (Od.right l)) ∧ w' = w := by
  obtain ⟨a1, g1, o1, c1, rfl, k1, k2, k3⟩ := hI
  by_cases hlen : l.length < 2 ∨ 16 < l.length
  · rw [right_len hlen]
    clear k2 k3
    generalize l.length = n at *
    rcases hlen with h | h
    · go_enter Tryz.func174, Tryz.ntmps174
      go_wp2
      go_ret
      exact ⟨rfl, rfl⟩
    · have h' : ¬ n < 2 := by omega
      go_enter Tryz.func174, Tryz.ntmps174
      go_wp2
      go_ret
      exact ⟨rfl, rfl⟩
  · have h2 : ¬ l.length < 2 := fun h => hlen (.inl h)
    have h16 : ¬ 16 < l.length := fun h => hlen (.inr h)
    clear hlen hl
    obtain ⟨rfl, hlt⟩ := k2 (by omega)
    have K3 := Lib.hid k3
    have HO := Lib.hid (fun j (hj : j < l.length) h => right_out (l := l) j hj h)
    have HR := Lib.hid (right_in (x := l.getD 0 0) (y := l.getD 1 0) (l := l) (by omega) (by omega) rfl rfl)
    obtain ⟨n, hn⟩ : ∃ n, n = l.length := ⟨_, rfl⟩
    rw [← hn] at K3 HO HR h2 h16 ⊢
    clear k1 k2 k3 hn hlt
    generalize Od.right l = R at *
    go_enter Tryz.func174, Tryz.ntmps174
    go_wp2
    go_loopw [15] (fun i wr => ∃ k : Nat, k ≤ n ∧ i = .int .i64 k ∧ wr = w ∧ ∀ j, j < k → 0 ≤ l.getD j 0 ∧ l.getD j 0 ≤ 2147483647) (fun i _ => n - (intOf i).toNat)
    case atStart => exact ⟨0, Nat.zero_le _, rfl, rfl, fun j hj => absurd hj (Nat.not_lt_zero _)⟩
    case round =>
      obtain ⟨k, hk, rfl, rfl, hall⟩ := hrel
      have HAll := Lib.hid hall
      clear hall
      by_cases hlt : k < n
      · have f1 := K3.out k hlt
        by_cases hx : 0 ≤ l.getD k 0 ∧ l.getD k 0 ≤ 2147483647
        · have HX := Lib.hid hx
          obtain ⟨x1, x2⟩ := hx
          generalize hxx : l.getD k 0 = x at *
          have HXX := Lib.hid hxx
          have y1 : ¬ x < 0 := by omega
          have y2 : ¬ 2147483647 < x := by omega
          clear hxx
          go_wp2
          go_roundw
          case rel => exact ⟨k + 1, by omega, by go_num, trivial, fun j hj => (by
            rcases Nat.lt_or_ge j k with h | h
            · exact HAll.out j h
            · obtain rfl : j = k := by omega
              rw [HXX.out]; exact HX.out)⟩
          case measure => simp [intOf]; omega
        · have hR := HO.out k hlt hx
          have hR2 := Lib.hid hR
          have hxo : l.getD k 0 < 0 ∨ (¬ l.getD k 0 < 0 ∧ 2147483647 < l.getD k 0) := by omega
          generalize l.getD k 0 = x at *
          clear hx hR
          rcases hxo with h | ⟨h, h'⟩
          · go_wp2
            go_ret
            exact ⟨by rw [hR2.out]; rfl, rfl⟩
          · go_wp2
            go_ret
            exact ⟨by rw [hR2.out]; rfl, rfl⟩
      · obtain rfl : k = n := by omega
        have hR := HR.out HAll.out
        have f0 := K3.out 0 (by omega)
        have f1 := K3.out 1 (by omega)
        rw [Nat.add_zero] at f0
        generalize l.getD 0 0 = x at *
        generalize l.getD 1 0 = y at *
        have hR2 := Lib.hid hR
        clear hR
        by_cases hx : x < 2
        · by_cases hy : y < 40
          · go_wp2
            go_ret
            exact ⟨by rw [hR2.out]; simp [hx, hy], rfl⟩
          · have hx2 : x ≠ 2 := by omega
            have hb : (x == 2) = false := by simp [hx2]
            go_wp2
            go_ret
            exact ⟨by rw [hR2.out]; simp [hx, hy, hx2], rfl⟩
        · by_cases hx2 : x = 2
          · subst hx2
            go_wp2
            go_ret
            exact ⟨by rw [hR2.out]; simp, rfl⟩
          · have hb : (x == 2) = false := by simp [hx2]
            go_wp2
            go_ret
            exact ⟨by rw [hR2.out]; simp [hx2]; omega, rfl⟩
theorem enters38 (args : Array Value) (w : World) : (callFunc 193 args).run Tryz.prog w = .ok (.enter 193 args) w := by
  simp [go_sem]
theorem gat_form (s : List Nat) : Od.parse s = match Od.gat ((Od.split s).map Od.numOf) with | .error k => .error k | .ok a => if Od.right (a.take 17) = true then .ok (a.take 17) else .error 1 := Od.parse_gat s
set_option maxRecDepth 100000 in
set_option maxHeartbeats 1000000 in
theorem parse_any (A : Nat → Addr) (s : ByteArray) (hs : s.size ≤ 100000) (tp : TypeId) (p : Value) (w : World) (hF : Figs w tp p) (hE : RFErrs w A) :
    Calls Tryz.prog 141 #[.string s] w fun e w' => w.grownBy w' none ∧ match Od.parse (strL s) with
      | .ok l => ∃ a c, e = .returned (.tuple #[.slice a l.length c, .nilIface]) ∧ Ints w' (.slice a l.length c) l ∧ Whole0 (.slice a l.length c)
      | .error k => e = .returned (.tuple #[.slice none 0 0, errV A k]) := by
  have HO := Lib.hid (ofText_any s w)
  have HG := Lib.hid (gather_any A 193 #[.pointer (some ⟨w.heap.size, 0, none⟩)] 6 _ (w.alloc (.cells #[.string s] 9)) enters38
    (ofTextClo_seq A s (by omega) w.heap.size (w.alloc (.cells #[.string s] 9)) (Boxed.new w _ _)
      (fun q W hW => numFig_any A q tp p W ((hF.grown (World.grownBy_alloc w _ none)).grown hW) ((hE.grown (World.grownBy_alloc w _ none)).grown hW)) index_any))
  have HER := Lib.hid (fun W (hW : w.grownBy W none) => (hE.grown (w' := W) hW).range)
  have HA := Lib.hid (World.grownBy_alloc w (.cells #[.string s] 9) none)
  rw [gat_form]
  cases hg : Od.gat ((Od.split (strL s)).map Od.numOf) with
  | error q =>
    have HG2 : Hid (Calls Tryz.prog 158 #[.func (.func 193) #[] #[.pointer (some ⟨w.heap.size, 0, none⟩)]] (w.alloc (.cells #[.string s] 9)) fun e w' => e = .returned (.tuple #[.slice none 0 0, errV A q]) ∧ w.grownBy w' none) := Lib.hid (HG.out.mono (by
      rintro e w' ⟨h1, h2⟩
      rw [hg] at h2
      exact ⟨h2, grown_trans HA.out h1⟩))
    clear HG hF hE hg
    go_enter Tryz.func141, Tryz.ntmps141
    go_wp2_with (first
      | (go_at_call 173; refine HO.out.mono ?_; rintro e w1 ⟨rfl, rfl⟩)
      | (go_at_call 158; refine HG2.out.mono ?_; rintro e w2 ⟨rfl, hg2⟩; have HG3 := Lib.hid hg2; clear hg2))
    go_ret2
    exact ⟨HG3.out, rfl⟩
  | ok a =>
    have ha : (a.take 17).length ≤ 17 := by rw [List.length_take]; omega
    obtain ⟨T, hT⟩ : ∃ T, T = a.take 17 := ⟨_, rfl⟩
    simp only []
    rw [← hT] at ha ⊢
    have HG2 : Hid (Calls Tryz.prog 158 #[.func (.func 193) #[] #[.pointer (some ⟨w.heap.size, 0, none⟩)]] (w.alloc (.cells #[.string s] 9)) fun e w' => ∃ v, e = .returned (.tuple #[v, .nilIface]) ∧ w.grownBy w' none ∧ Ints w' v T ∧ Whole0 v) := Lib.hid (HG.out.mono (by
      rintro e w' ⟨h1, h2⟩
      rw [hg] at h2
      obtain ⟨v, h3, h4, h5⟩ := h2
      exact ⟨v, h3, grown_trans HA.out h1, by rw [hT]; exact h4, h5⟩))
    have HI := Lib.hid (fun v W (hv : Ints W v T) => isId_any v T W hv (by omega))
    clear HG hF hE hg hT
    by_cases hr : Od.right T = true
    · rw [if_pos hr]
      rw [hr] at HI
      go_enter Tryz.func141, Tryz.ntmps141
      go_wp2_with (first
        | (go_at_call 173; refine HO.out.mono ?_; rintro e w1 ⟨rfl, rfl⟩)
        | (go_at_call 158; refine HG2.out.mono ?_; rintro e w2 ⟨v, rfl, hg2, hi2, hw2⟩; have HG3 := Lib.hid hg2; have HI3 := Lib.hid hi2; have HW3 := Lib.hid hw2; clear hg2 hi2 hw2)
        | (go_at_call 174; refine (HI.out _ _ HI3.out).mono ?_; rintro e w3 ⟨rfl, rfl⟩))
      go_ret2
      obtain ⟨va, _, _, vc, hv, _⟩ := HI3.out
      subst hv
      exact ⟨HG3.out, _, _, rfl, HI3.out, HW3.out⟩
    · rw [if_neg hr]
      rw [Bool.not_eq_true] at hr
      rw [hr] at HI
      go_enter Tryz.func141, Tryz.ntmps141
      go_wp2_with (first
        | (go_at_call 173; refine HO.out.mono ?_; rintro e w1 ⟨rfl, rfl⟩)
        | (go_at_call 158; refine HG2.out.mono ?_; rintro e w2 ⟨v, rfl, hg2, hi2, hw2⟩; have HG3 := Lib.hid hg2; have HI3 := Lib.hid hi2; have eR := HER.out w2 hg2; clear hg2 hi2 hw2)
        | (go_at_call 174; refine (HI.out _ _ HI3.out).mono ?_; rintro e w3 ⟨rfl, rfl⟩))
      go_quiet (fail)
      go_wp2
      go_ret2
      exact ⟨grown_drewN HG3.out _, rfl⟩
end Go.Proofs.YtgahhbompnbcdaaGreatDoor
namespace Go.Proofs.YtgahhbompnbcdaaGreatDoor
open Go.RowKit
theorem hi_at {n : Nat} (hn : n < 4398046511104) (i : Nat) (h : n / 128 ^ i ≠ 0) : Od.hi (n / 128 ^ i) = Od.hi (n / 128 ^ (i + 1)) ++ [n / 128 ^ i % 128 + 128] := by
  have := Nat.div_le_self n (128 ^ i)
  rw [Od.hi_step h (by omega), Nat.pow_succ, ← Nat.div_div_eq_div_mul]
theorem hiF_len : ∀ (f m : Nat), (Od.hiF f m).length ≤ f
  | 0, m => Nat.le_refl _
  | f + 1, m => by
    rw [Od.hiF]
    split
    · simp
    · have := hiF_len f (m / 128)
      rw [List.length_append]; simp; omega
theorem hiLen (n i : Nat) : (Od.hi (n / 128 ^ i)).length ≤ 10 := hiF_len 10 _
theorem pow_le5 {n : Nat} (hn : n ≤ 2147483800) (i : Nat) (h : 0 < n / 128 ^ i) : i ≤ 4 := by
  rcases Nat.lt_or_ge 4 i with h5 | h5
  · have : n / 128 ^ i = 0 := Nat.div_eq_of_lt (Nat.lt_of_lt_of_le (show n < 128 ^ 5 by have : (128 ^ 5 : Nat) = 34359738368 := by decide
                                                                                        omega) (Nat.pow_le_pow_right (by decide) h5))
    omega
  · exact h5
theorem or128 : ∀ q : Fin 256, bits BinOp.or IntKind.u8 128 ((q.val : Nat) : Int) = ((q.val % 128 + 128 : Nat) : Int) := by decide +kernel
theorem not128 : ∀ q : Fin 256, bits BinOp.andNot IntKind.u8 ((q.val : Nat) : Int) 128 = ((q.val % 128 : Nat) : Int) := by decide +kernel
theorem or128' (m : Nat) : bits BinOp.or IntKind.u8 128 ((m : Int) % 256) = ((m % 128 + 128 : Nat) : Int) := by
  have h := or128 ⟨m % 256, Nat.mod_lt _ (by decide)⟩
  have e : (m : Int) % 256 = ((m % 256 : Nat) : Int) := by omega
  rw [e, h]
  simp only []
  congr 1
  omega
theorem not128' (m : Nat) : bits BinOp.andNot IntKind.u8 ((m : Int) % 256) 128 = ((m % 128 : Nat) : Int) := by
  have h := not128 ⟨m % 256, Nat.mod_lt _ (by decide)⟩
  have e : (m : Int) % 256 = ((m % 256 : Nat) : Int) := by omega
  rw [e, h]
  simp only []
  congr 1
  omega
set_option maxRecDepth 100000 in
set_option maxHeartbeats 1000000 in
theorem appNum_any (w0 w : World) (v : Value) (L : List Nat) (n : Nat) (hn : n ≤ 2147483800) (hL : L.length ≤ 1000000) (hF : FrW w0 w v L) :
    Calls Tryz.prog 142 #[v, .int .i64 (n : Int)] w fun e w' => ∃ u, e = .returned u ∧ FrW w0 w' u (L ++ Od.sept n) := by
  obtain ⟨a, g, c, rfl, _⟩ := ownsRow_form hF.own
  have HSh := Lib.hid (sept_shr n)
  have HF := Lib.hid hF
  have HP := Lib.hid (pow_le5 hn)
  have HHi := Lib.hid (fun i h => hi_at (n := n) (by omega) i h)
  have HSp : Hid (Od.sept n = Od.hi (n / 128) ++ [n % 128]) := Lib.hid (Od.sept_hi n (by omega))
  clear hF
  go_enter Tryz.func142, Tryz.ntmps142
  go_wp2
  go_loopw [5] (fun s wr => ∃ k : Nat, 1 ≤ k ∧ k ≤ 5 ∧ s = .int .i64 k ∧ wr = w ∧ (k = 1 ∨ 0 < n / 128 ^ (k - 1))) (fun s _ => 6 - (intOf s).toNat)
  case atStart => exact ⟨1, by omega, by omega, rfl, rfl, .inl rfl⟩
  case round =>
    obtain ⟨k, h1, h5, rfl, rfl, hk⟩ := hrel
    have e1 := HSh.out k
    by_cases hp : 0 < n / 128 ^ k
    · have hc : (0 : Int) < (n : Int) / 128 ^ k := by exact_mod_cast hp
      have HK := Lib.hid hp
      have h4 := HP.out k hp
      clear hp
      go_wp2
      go_roundw
      case rel => exact ⟨k + 1, by omega, by omega, by go_num, trivial, .inr (by rw [Nat.add_sub_cancel]; exact HK.out)⟩
      case measure => simp [intOf]; omega
    · have hc : ¬ (0 : Int) < (n : Int) / 128 ^ k := fun h => hp (by exact_mod_cast h)
      have hz : n / 128 ^ k = 0 := Nat.eq_zero_of_not_pos hp
      have FS : Hid (FrW w0 wr (.slice a L.length c) (L ++ Od.hi (n / 128 ^ (k - 1 + 1)))) := Lib.hid (by
        rw [show k - 1 + 1 = k by omega, hz, Od.hi_zero, List.append_nil]; exact HF.out)
      have HPos : Hid (∀ i, 1 ≤ i → i ≤ k - 1 → n / 128 ^ i ≠ 0) := Lib.hid (fun i hi hk' => by
        rcases hk with h | h
        · omega
        · exact Nat.pos_iff_ne_zero.1 (Nat.lt_of_lt_of_le h (Nat.div_le_div_left (Nat.pow_le_pow_right (n := 128) (by decide) hk') (Nat.pow_pos (n := i) (by decide : 0 < 128)))))
      have hk1 : (k : Int) - 1 = ((k - 1 : Nat) : Int) := by omega
      clear hp hz hk
      go_wp2
      go_loopw [0, 6] (fun o i wr => ∃ (j : Nat), j ≤ k - 1 ∧ i = .int .i64 j ∧ FrW w0 wr o (L ++ Od.hi (n / 128 ^ (j + 1)))) (fun _ i _ => (intOf i).toNat)
      case atStart => exact ⟨k - 1, Nat.le_refl _, by rw [← hk1], FS.out⟩
      case round =>
        obtain ⟨j, hj, rfl, hF2⟩ := hrel
        have HF2 := Lib.hid hF2
        obtain ⟨a2, g2, c2, hv2, _⟩ := ownsRow_form hF2.own
        subst hv2
        have e2 := HSh.out j
        clear hF2
        by_cases hj0 : 0 < j
        · have hne := HPos.out j hj0 hj
          have HSt := Lib.hid (HHi.out j hne)
          clear hne
          obtain ⟨p, hp⟩ : ∃ p, p = n / 128 ^ j % 128 + 128 := ⟨_, rfl⟩
          have hor : bits BinOp.or IntKind.u8 128 ((n : Int) / 128 ^ j % 256) = (p : Int) := by
            rw [hp, ← or128', Int.natCast_ediv, Int.natCast_pow]; rfl
          rw [← hp] at HSt
          have HA : Hid ((L ++ Od.hi (n / 128 ^ (j + 1))).length ≤ 2000000) := Lib.hid (by
            have := hiLen n (j + 1)
            rw [List.length_append]; omega)
          generalize hAcc : L ++ Od.hi (n / 128 ^ (j + 1)) = acc at *
          have HAcc := Lib.hid hAcc
          clear hp hAcc
          go_wp2_with (at_builtin; refine wpList_app1 (by rfl) (.tmp 20) (.tmp 27) 27 (by rfl) w0.heap.size 5 (.int .u8 0) 1 Tryz.underlying27 (by kernel_rfl) rfl (by decide) _ acc.length (cellsL acc) (by rfl) (HF2.out.own.alloc _) ⟨_, 0, none⟩ (.int .u8 (p : Int)) (by rfl) (cell_blk (alloc_at _ _) 0 rfl) rfl (by have := HA.out; omega) (by have := HF2.out.le; rw [alloc_size]; omega) ?_; intro v' w3 ho3 hg3; have F3 := Lib.hid ((HF2.out.alloc _).step (l' := acc ++ [p]) ho3 hg3 (by rw [cellsL_append]; rfl)); clear ho3 hg3)
          go_roundw
          case rel => exact ⟨j - 1, by omega, by have : (j : Int) - 1 = ((j - 1 : Nat) : Int) := by omega
                                                 go_num, by rw [show j - 1 + 1 = j by omega, HSt.out, ← List.append_assoc, HAcc.out]; exact F3.out⟩
          case measure => simp [intOf]; omega
        · obtain rfl : j = 0 := by omega
          obtain ⟨p, hp⟩ : ∃ p, p = n % 128 := ⟨_, rfl⟩
          have hor : bits BinOp.andNot IntKind.u8 ((n : Int) % 256) 128 = (p : Int) := by rw [hp, ← not128']
          rw [← hp] at HSp
          have HA : Hid ((L ++ Od.hi (n / 128 ^ (0 + 1))).length ≤ 2000000) := Lib.hid (by
            have := hiLen n (0 + 1)
            rw [List.length_append]; omega)
          have HEnd : Hid (L ++ Od.sept n = L ++ Od.hi (n / 128 ^ (0 + 1)) ++ [p]) := Lib.hid (by rw [HSp.out, Nat.zero_add, Nat.pow_one, List.append_assoc])
          generalize L ++ Od.hi (n / 128 ^ (0 + 1)) = acc at *
          clear hp
          go_wp2_with (at_builtin; refine wpList_app1 (by rfl) (.tmp 29) (.tmp 33) 27 (by rfl) w0.heap.size 5 (.int .u8 0) 1 Tryz.underlying27 (by kernel_rfl) rfl (by decide) _ acc.length (cellsL acc) (by rfl) (HF2.out.own.alloc _) ⟨_, 0, none⟩ (.int .u8 (p : Int)) (by rfl) (cell_blk (alloc_at _ _) 0 rfl) rfl (by have := HA.out; omega) (by have := HF2.out.le; rw [alloc_size]; omega) ?_; intro v' w3 ho3 hg3; have F3 := Lib.hid ((HF2.out.alloc _).step (l' := acc ++ [p]) ho3 hg3 (by rw [cellsL_append]; rfl)); clear ho3 hg3)
          go_ret
          exact ⟨_, rfl, by rw [HEnd.out]; exact F3.out⟩
end Go.Proofs.YtgahhbompnbcdaaGreatDoor
namespace Go.Proofs.YtgahhbompnbcdaaGreatDoor
open Go.RowKit
theorem appNum_z (w0 w : World) (v : Value) (L : List Nat) (n : Nat) (z : Int) (hz : z = (n : Int)) (hn : n ≤ 2147483800) (hL : L.length ≤ 1000000) (hF : FrW w0 w v L) :
    Calls Tryz.prog 142 #[v, .int .i64 z] w fun e w' => ∃ u, e = .returned u ∧ FrW w0 w' u (L ++ Od.sept n) := by
  subst hz; exact appNum_any w0 w v L n hn hL hF
theorem Od.put_lt (l : List Int) : ∀ x ∈ Od.put l, x < 256 := fun x hx => by
  rw [Od.put] at hx
  rcases List.mem_append.1 hx with h | h
  · exact Od.septUpto_lt _ 6 x h
  · exact rest_lt _ x h
theorem bytes_nil (w : World) : Bytes w (.slice none 0 0) [] := ⟨by simp, none, 0, 0, 0, rfl, Nat.le_refl _, fun h => absurd h (Nat.lt_irrefl _), fun j hj => absurd hj (Nat.not_lt_zero _)⟩
theorem FrW.nil (w : World) : FrW w w (.slice none 0 0) [] := ⟨grown_refl _ _, World.ownsRow_nil _ _ _ _⟩
set_option maxRecDepth 100000 in
set_option maxHeartbeats 2000000 in
theorem pt_any (A : Nat → Addr) (s : ByteArray) (hs : s.size ≤ 100000) (tp : TypeId) (p : Value) (w : World) (hF : Figs w tp p) (hE : RFErrs w A) :
    Calls Tryz.prog 95 #[.string s] w fun e w' => w.grownBy w' none ∧ match Od.parse (strL s) with
      | .ok l => ∃ v, e = .returned (.tuple #[v, .nilIface]) ∧ w'.ownsRow w.heap.size 5 1 v (Od.put l).length (cellsL (Od.put l))
      | .error k => e = .returned (.tuple #[.slice none 0 0, errV A k]) := by
  have HP := parse_any A s hs tp p w hF hE
  cases hp : Od.parse (strL s) with
  | error k =>
    rw [hp] at HP
    have HP2 := Lib.hid HP
    clear HP hF hE hp
    go_enter Tryz.func95, Tryz.ntmps95
    go_wp2_with (go_at_call 141; refine HP2.out.mono ?_; rintro e w1 ⟨hg1, rfl⟩; have HG1 := Lib.hid hg1; clear hg1)
    go_ret2
    exact ⟨HG1.out, rfl⟩
  | ok l =>
    rw [hp] at HP
    obtain ⟨⟨hl2, hl16, hx0, hx2, hxy⟩, hall⟩ := (Od.right_iff l).1 (Od.parse_ok hp).2
    have hnat : ∀ j, j < l.length → ∃ u : Nat, l.getD j 0 = u ∧ u ≤ 2147483647 := fun j hj => by
      have := hall l[j] (List.getElem_mem hj)
      have e : l.getD j 0 = l[j] := by rw [List.getD_eq_getElem?_getD, List.getElem?_eq_getElem hj]; rfl
      exact ⟨(l.getD j 0).toNat, by omega, by omega⟩
    obtain ⟨x, hx, hxb⟩ := hnat 0 (by omega)
    obtain ⟨y, hy, hyb⟩ := hnat 1 (by omega)
    have hx2' : x ≤ 2 := by omega
    have HPut : Hid (Od.put l = Od.sept (40 * x + y) ++ Od.rest (l.drop 2)) := Lib.hid (by rw [Od.put, hx, hy, Int.toNat_natCast, Int.toNat_natCast])
    obtain ⟨m, hm⟩ : ∃ m, l.length = m + 2 := ⟨l.length - 2, by omega⟩
    have hm14 : m ≤ 14 := by omega
    have HNt := Lib.hid hnat
    obtain ⟨r, hrr⟩ : ∃ r, r = l.drop 2 := ⟨_, rfl⟩
    have hdl : r.length = m := by rw [hrr, List.length_drop]; omega
    have HRn : Hid (∀ j, j < m → ∃ u : Nat, r.getD j 0 = u ∧ u ≤ 2147483647) := Lib.hid (fun j hj => by
      obtain ⟨u, h1, h2⟩ := hnat (j + 2) (by omega)
      refine ⟨u, ?_, h2⟩
      rw [← h1, hrr]
      simp [List.getD_eq_getElem?_getD, Nat.add_comm])
    have HRt : Hid (∀ k, k < m → Od.rest (r.take (k + 1)) = Od.rest (r.take k) ++ Od.sept (r.getD k 0).toNat) := Lib.hid (fun k hk => Od.rest_take r k (by omega))
    have HRl : Hid (∀ k, (Od.rest (r.take k)).length ≤ 6 * k) := Lib.hid (fun k => by
      have := Od.rest_len (r.take k)
      rw [List.length_take] at this
      omega)
    have HRe : Hid (Od.rest (r.take m) = Od.rest r) := Lib.hid (by rw [List.take_of_length_le (by omega)])
    rw [← hrr] at HPut
    -- what Parse hands back: the arcs' cells
    have HP2 : Hid (Calls Tryz.prog 141 #[.string s] w fun e w' => w.grownBy w' none ∧ ∃ g o c, e = .returned (.tuple #[.slice (some ⟨g, o, none⟩) (m + 2) c, .nilIface]) ∧ m + 2 ≤ c ∧ g < w'.heap.size ∧ w'.cell? ⟨g, o, none⟩ = some (.int .i64 (x : Nat)) ∧ w'.cell? ⟨g, o + 1, none⟩ = some (.int .i64 (y : Nat)) ∧
        (0 < m → ∃ g1 o1, subA (some ⟨g, o, none⟩) 2 c = some ⟨g1, o1, none⟩ ∧ g1 < w'.heap.size ∧ ∀ j, j < m → w'.cell? ⟨g1, o1 + j, none⟩ = some (.int .i64 (r.getD j 0)))) := Lib.hid (HP.mono (by
      rintro e w' ⟨h1, a, c, h2, h3, _⟩
      refine ⟨h1, ?_⟩
      have h3' := h3
      obtain ⟨a0, g, o, c0, he, hc, ha, hcell⟩ := h3'
      cases he
      obtain ⟨rfl, hg⟩ := ha (by omega)
      have hf := Ints.from h3 2 (by omega)
      obtain ⟨a1, g1, o1, c1, he, _, ha1, hcell1⟩ := hf
      rw [← hrr, hdl] at ha1 hcell1
      have q0 := hcell 0 (by omega)
      have q1 := hcell 1 (by omega)
      rw [hx, Nat.add_zero] at q0
      rw [hy] at q1
      rw [hm] at h2 hc
      refine ⟨g, o, c, h2, hc, hg, q0, q1, fun hmp => ⟨g1, o1, ?_, (ha1 hmp).2, hcell1⟩⟩
      rw [← (ha1 hmp).1]
      simp only [Value.slice.injEq] at he
      exact he.1))
    have HAp := Lib.hid (fun w0 w v L n z hz hn hL hF => appNum_z w0 w v L n z hz hn hL hF)
    have HSl := Lib.hid Od.sept_len
    clear HP hF hE hp hl2 hl16 hx0 hx2 hxy hall hnat hx hy hm hrr hdl HNt
    go_enter Tryz.func95, Tryz.ntmps95
    go_wp2_with (go_at_call 141; refine HP2.out.mono ?_; rintro e w1 ⟨hg1, g, o, c, rfl, hc, hgs, q0, q1, hmp⟩; have HG1 := Lib.hid hg1; have HMP := Lib.hid hmp; have HGs := Lib.hid hgs; clear hg1 hmp hgs)
    refine wp_region_quiet_tail (fun w' => ∃ n, w' = w1.drewN n) 8 (by kernel_rfl) (by kernel_rfl) ⟨1, rfl⟩ ?_
    simp only [List.take_succ_cons, List.take_zero, List.drop_succ_cons, List.drop_zero]
    repeat (go_big_quiet_step (fail))
    refine wpQuiet_nil ?_
    rintro _ ⟨n3, rfl⟩
    obtain ⟨W1, hW1⟩ : ∃ W1, W1 = w1.drewN n3 := ⟨_, rfl⟩
    have HG2 : Hid (w.grownBy W1 none) := Lib.hid (by rw [hW1]; exact grown_drewN HG1.out _)
    have HM2 : Hid (0 < m → ∃ g1 o1, subA (some ⟨g, o, none⟩) 2 c = some ⟨g1, o1, none⟩ ∧ g1 < W1.heap.size ∧ ∀ j, j < m → W1.cell? ⟨g1, o1 + j, none⟩ = some (.int .i64 (r.getD j 0))) := Lib.hid (by rw [hW1]; exact HMP.out)
    rw [← hW1]
    have F0 := Lib.hid (FrW.nil W1)
    clear hW1 q0 q1 HG1 HMP HGs
    go_wp2_with (go_at_call 142; refine (HAp.out W1 W1 _ [] (40 * x + y) _ (by omega) (by omega) (by simp) F0.out).mono ?_; rintro e w2 ⟨u, rfl, hf2⟩; have F2 := Lib.hid hf2; clear hf2)
    rw [List.nil_append] at F2
    obtain ⟨S0, hS0⟩ : ∃ S0, S0 = Od.sept (40 * x + y) := ⟨_, rfl⟩
    have HS0 : Hid (S0.length ≤ 6) := Lib.hid (by rw [hS0]; exact HSl.out _)
    rw [← hS0] at F2 HPut
    have FS : Hid (FrW W1 w2 u (S0 ++ Od.rest (r.take 0))) := Lib.hid (by rw [show Od.rest (r.take 0) = [] from rfl, List.append_nil]; exact F2.out)
    clear hS0
    rcases Nat.eq_zero_or_pos m with hmp | hmp
    · have HM0 := Lib.hid hmp
      clear hmp
      go_loopw [6, 29] (fun o i wr => ∃ k : Nat, k ≤ m ∧ i = .int .i64 k ∧ FrW W1 wr o (S0 ++ Od.rest (r.take k))) (fun _ i _ => m - (intOf i).toNat)
      case atStart => exact ⟨0, by omega, rfl, FS.out⟩
      case round =>
        obtain ⟨k, hk, rfl, hF⟩ := hrel
        have HF := Lib.hid hF
        clear hF
        obtain rfl : k = m := by have := HM0.out; omega
        go_wp2
        go_ret2
        exact ⟨grown_trans HG2.out HF.out.grown, _, rfl, by rw [HPut.out, ← HRe.out]; exact ownsRow_base HF.out.own HG2.out.size⟩
    · obtain ⟨g1, o1, hsub, hg1, hcs⟩ := HM2.out hmp
      have HCr : Hid (∀ W, W1.grownBy W none → ∀ j, j < m → W.cell? ⟨g1, o1 + j, none⟩ = some (.int .i64 (r.getD j 0))) := Lib.hid (fun W hW j hj => by
        have := hcs j hj
        rw [← World.cell?_of_block (hW.block g1 hg1 (by simp))] at this
        exact this)
      clear hcs hg1
      rw [hsub]
      go_loopw [6, 29] (fun o i wr => ∃ k : Nat, k ≤ m ∧ i = .int .i64 k ∧ FrW W1 wr o (S0 ++ Od.rest (r.take k))) (fun _ i _ => m - (intOf i).toNat)
      case atStart => exact ⟨0, by omega, rfl, FS.out⟩
      case round =>
        obtain ⟨k, hk, rfl, hF⟩ := hrel
        have HF := Lib.hid hF
        clear hF
        by_cases hkm : k < m
        · have hck := HCr.out _ HF.out.grown k hkm
          obtain ⟨z, hz, hz2⟩ := HRn.out k hkm
          have hrt := HRt.out k hkm
          rw [hz] at hck hrt
          rw [Int.toNat_natCast] at hrt
          have HRt2 := Lib.hid hrt
          have hlen1 := HRl.out k
          have HLn : Hid ((S0 ++ Od.rest (r.take k)).length ≤ 6 + 6 * k) := Lib.hid (by rw [List.length_append]; have := HS0.out; omega)
          generalize hAcc : S0 ++ Od.rest (r.take k) = acc at *
          have HAcc := Lib.hid hAcc
          clear hrt hz hlen1 hAcc
          go_wp2_with (go_at_call 142; refine (HAp.out W1 _ _ acc z _ rfl (by omega) (by have := HLn.out; omega) HF.out).mono ?_; rintro e w4 ⟨u4, rfl, hf4⟩; have F4 := Lib.hid hf4; clear hf4)
          go_roundw
          case rel => exact ⟨k + 1, by omega, by go_num, by rw [HRt2.out, ← List.append_assoc, HAcc.out]; exact F4.out⟩
          case measure => simp [intOf]; omega
        · obtain rfl : k = m := by omega
          go_wp2
          go_ret2
          exact ⟨grown_trans HG2.out HF.out.grown, _, rfl, by rw [HPut.out, ← HRe.out]; exact ownsRow_base HF.out.own HG2.out.size⟩
theorem pt_spec (A : Nat → Addr) (tp : TypeId) (p : Value) (w : World) (hF : Figs w tp p) (hE : RFErrs w A) : PtSpec A w := fun s W hs hW =>
  (pt_any A s hs tp p W (hF.grown hW) (hE.grown hW)).mono (by
    rintro e w' ⟨h1, h2⟩
    refine ⟨h1, ?_⟩
    cases hp : Od.parse (strL s) with
    | error k => rw [hp] at h2; exact ⟨none, 0, h2, bytes_nil _⟩
    | ok l =>
      rw [hp] at h2
      obtain ⟨v, h3, h4⟩ := h2
      have h5 := Bytes.own h4 (Od.put_lt l)
      have h6 := Whole0.own h4
      obtain ⟨a, _, c, rfl, _⟩ := ownsRow_form h4
      exact ⟨a, c, h3, h5, h6⟩)
end Go.Proofs.YtgahhbompnbcdaaGreatDoor
