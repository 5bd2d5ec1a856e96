import Derived.Test.YtihioekepflpiaaGreatDoorZb05
import Derived.Test.YtihioekepflpiaaGreatDoorZb08
import Derived.Test.YtihioekepflpiaaGreatDoorZb09
import Derived.Test.YtihioekepflpiaaGreatDoorZb12
import Derived.Test.YtihioekepflpiaaGreatDoorZb17
import Derived.Test.YtihioekepflpiaaGreatDoorZb21
import Derived.DeepKeys5
import Derived.Handy
import Derived.BigQuiet
set_option linter.unusedVariables false
set_option linter.unusedSimpArgs false
namespace Go.Proofs.YtihioekepflpiaaGreatDoor
open Go.RowKit Go.Maps Bu
open Go.ChangeMaps (setBlock)
theorem an_info : (Tryz.prog.info? 33).map (·.size) = some 4 := by kernel_rfl
set_option maxRecDepth 100000 in
set_option maxHeartbeats 4000000 in
theorem isAnchor_any (A : Nat → Addr) (a : An) (w : World) (hk : a.k.size ≤ 1000) (hE : AllErrs w A) :
    Calls Tryz.prog 74 #[a.val] w fun e w' => e = .returned (.bool (okAn a)) ∧ w.grownBy w' none := by
  obtain ⟨g, k, f, t⟩ := a
  have hv : An.val ⟨g, k, f, t⟩ = .agg #[.int .i64 g, .string k, .int .i64 f, .int .i64 t] := rfl
  obtain ⟨w1, hw1⟩ : ∃ w1, w1 = w.alloc (.cells #[.int .i64 g, .string k, .int .i64 f, .int .i64 t] 33) := ⟨_, rfl⟩
  have hg1 : w.grownBy w1 none := by rw [hw1]; exact World.grownBy_alloc _ _ _
  have hb1 : w1.heap[w.heap.size]? = some (.cells #[.int .i64 g, .string k, .int .i64 f, .int .i64 t] 33 (0, 0)) := by rw [hw1]; exact alloc_at _ _
  have HB1 := Lib.hid hb1
  have HG1 := Lib.hid hg1
  have HW1 := Lib.hid hw1
  have HBy := Lib.hid (bytes_any A k w1 (by have : k.size ≤ 1000 := hk; omega) (hE.grown hg1))
  have hok : okAn ⟨g, k, f, t⟩ = (okKey k && (decide (1 ≤ g ∧ g ≤ 1048576) && decide (0 ≤ f ∧ f ≤ t ∧ t ≤ 253402300799))) := rfl
  rw [hv, hok]
  by_cases hK : okKey k = true
  · have hK2 : (strL k).length = 32 ∧ hexOk (strL k) = true := by unfold okKey at hK; simpa using hK
    rw [hK, Bool.true_and]
    unfold ByPost at HBy
    simp only [if_pos hK2] at HBy
    clear hk hE hv hw1 hg1 hok hK hK2
    go_enter Tryz.func74, Tryz.ntmps74
    go_wp2_with (go_at_call 39; rw [← HW1.out]; refine HBy.out.mono ?_; rintro e w2 ⟨⟨a2, c2, rfl, -, -⟩, hg2⟩; have G2 := Lib.hid hg2; have hb2 := hold_b3 HB1.out hg2; have d0 := cell_blk hb2 0 rfl; have d2 := cell_blk hb2 2 rfl; have d3 := cell_blk hb2 3 rfl; clear hg2)
    all_goals (go_ret; refine ⟨congrArg Ending.returned (congrArg Value.bool ?_), grown_trans HG1.out G2.out⟩; rw [Bool.eq_iff_iff]; simp; omega)
  · have hKf : okKey k = false := by simpa using hK
    have hK2 : ¬ ((strL k).length = 32 ∧ hexOk (strL k) = true) := by unfold okKey at hK; simpa using hK
    rw [hKf, Bool.false_and]
    unfold ByPost at HBy
    simp only [if_neg hK2] at HBy
    clear hk hE hv hw1 hg1 hok hK hK2 hKf
    go_enter Tryz.func74, Tryz.ntmps74
    go_wp2_with (go_at_call 39; rw [← HW1.out]; refine HBy.out.mono ?_; rintro e w2 ⟨rfl, hg2⟩; have G2 := Lib.hid hg2; clear hg2)
    go_ret
    exact ⟨rfl, grown_trans HG1.out G2.out⟩
/-- The map of keys that were. -/
theorem bk_keyed : Keyed Tryz.prog 9 := string_keyed Tryz.underlying9
theorem bk_map : Tryz.prog.underlying 126 = some (.map 9 4) := Tryz.underlying126
theorem bk_zero (w : World) : (zeroValue 4).run Tryz.prog w = .ok (.bool false) w := by kernel_rfl
theorem bk_key (s : ByteArray) (hs : s.size ≤ 1099511620000) : ∃ l, keyOf Tryz.prog 9 (.string s) = some l := ⟨_, Go.WideMaps.keyOf_string_mk Tryz.underlying9 (by unfold maxLen; omega)⟩
def keysOf (l : List An) : List (Value × Value) := l.map fun a => (.string a.k, .bool true)
theorem bk_keys {l : List An} (h : ∀ a ∈ l, a.k.size ≤ 1000) : ∀ p ∈ keysOf l, ∃ kl, keyOf Tryz.prog 9 p.1 = some kl := fun p hp => by
  obtain ⟨a, ha, rfl⟩ := List.mem_map.1 hp
  exact bk_key a.k (by have := h a ha; omega)
theorem bk_look {w : World} {b : Nat} {l : List An} (h : MapL w b (keysOf l)) (hs : ∀ a ∈ l, a.k.size ≤ 1000) (k : ByteArray) (hk : k.size ≤ 1000) :
    (Instr.lookup 126 (.map (some b)) (.string k) false).run Tryz.prog w = .ok (.bool (l.any (fun a => decide (a.k = k)))) w := by
  obtain ⟨kl, hkl⟩ := bk_key k (by omega)
  cases ha : l.any (fun a => decide (a.k = k)) with
  | true =>
    obtain ⟨a, ha1, ha2⟩ := List.any_eq_true.1 ha
    have ha2 : a.k = k := by simpa using ha2
    exact look_hit bk_keyed bk_map h (bk_keys hs) hkl (v := .bool true) (List.mem_map.2 ⟨a, ha1, by rw [ha2]⟩) (fun p hp _ => by
      obtain ⟨a', _, rfl⟩ := List.mem_map.1 hp
      rfl) false
  | false =>
    refine look_miss bk_keyed bk_map (bk_zero w) h (bk_keys hs) hkl (fun p hp e => ?_) false
    obtain ⟨a, ha1, rfl⟩ := List.mem_map.1 hp
    have e : a.k = k := by simpa using e
    have := List.any_eq_false.1 ha a ha1
    simp [e] at this
theorem bk_put {w : World} {b : Nat} {l : List An} (h : MapL w b (keysOf l)) (hs : ∀ a ∈ l, a.k.size ≤ 1000) (a : An) (hk : a.k.size ≤ 1000) (hno : l.any (fun x => decide (x.k = a.k)) = false) :
    ∃ es' clock', (∀ W : World, W.heap[b]? = w.heap[b]? → (Instr.mapUpdate 126 (.map (some b)) (.string a.k) (.bool true)).run Tryz.prog W = .ok () (setBlock W b (.map es' clock'))) ∧ es'.toList.map (fun x => (x.key, x.val)) = keysOf (l ++ [a]) := by
  obtain ⟨kl, hkl⟩ := bk_key a.k (by omega)
  obtain ⟨es', cl', h1, h2⟩ := put_miss bk_keyed bk_map h (bk_keys hs) (v := .bool true) hkl (fun p hp e => by
    obtain ⟨x, hx, rfl⟩ := List.mem_map.1 hp
    have e : x.k = a.k := by simpa using e
    have := List.any_eq_false.1 hno x hx
    simp [e] at this)
  refine ⟨es', cl', h1, ?_⟩
  rw [h2]
  simp [keysOf]
theorem all_ne {l : List An} {k : ByteArray} : (l.all (fun b => decide (b.k ≠ k))) = !(l.any (fun b => decide (b.k = k))) := by
  rw [List.not_any_eq_all_not]
  congr 1
  funext b
  simp
set_option maxRecDepth 100000 in
set_option maxHeartbeats 4000000 in
theorem areAnchors_any (A : Nat → Addr) (v : Value) (l : List An) (w : World) (hA : Ans w v l) (hl : l.length ≤ 1000) (hk : ∀ a ∈ l, a.k.size ≤ 1000) (hE : AllErrs w A) :
    Calls Tryz.prog 51 #[v] w fun e w' => e = .returned (.bool (okL l)) ∧ w.grownBy w' none := by
  have HP := Lib.hid (fun W (hg : w.grownBy W none) => (hA.grown hg).form)
  obtain ⟨a, g, o, c, rfl, ha, h0, hx⟩ := hA.form
  obtain ⟨n, hn⟩ : ∃ n, n = l.length := ⟨_, rfl⟩
  have HX := Lib.hid (fun W (hg : w.grownBy W none) i (hi : i < n) => (show W.cell? ⟨g, o + i * 4, none⟩ = some (.int .i64 (l.getD i an0).g) ∧ W.cell? ⟨g, o + i * 4 + 1, none⟩ = some (.string (l.getD i an0).k) ∧ W.cell? ⟨g, o + i * 4 + 2, none⟩ = some (.int .i64 (l.getD i an0).f) ∧ W.cell? ⟨g, o + i * 4 + 3, none⟩ = some (.int .i64 (l.getD i an0).t) from by
    have hb := hg.block g (ha (by omega)).2 (by simp)
    obtain ⟨k1, k2, k3, k4⟩ := hx i (by omega)
    exact ⟨(World.cell?_of_block hb).trans k1, (World.cell?_of_block hb).trans k2, (World.cell?_of_block hb).trans k3, (World.cell?_of_block hb).trans k4⟩))
  have HAd : Hid (0 < n → a = some ⟨g, o, none⟩) := Lib.hid (fun h => (ha (by omega)).1)
  by_cases h8 : 1 ≤ n ∧ n ≤ 8
  · have hok : okL l = docA [] l := by unfold okL; rw [← hn, decide_eq_true h8, Bool.true_and]
    rw [hok]
    have HIs := Lib.hid (fun W (hg : w.grownBy W none) i (hi : i < n) => isAnchor_any A (l.getD i an0) W (hk _ (by rw [List.getD_eq_getElem?_getD, List.getElem?_eq_getElem (by omega)]; exact List.getElem_mem _)) (hE.grown hg))
    have HKs : Hid (∀ i, i < n → (l.getD i an0).k.size ≤ 1000) := Lib.hid (fun i hi => hk _ (by rw [List.getD_eq_getElem?_getD, List.getElem?_eq_getElem (by omega)]; exact List.getElem_mem _))
    have HKt : Hid (∀ i, ∀ x ∈ l.take i, x.k.size ≤ 1000) := Lib.hid (fun i x hx => hk x (List.mem_of_mem_take hx))
    have HLn := Lib.hid hn
    obtain rfl := HAd.out (by omega)
    have hmm := @run_makeMap Tryz.prog
    have hlo : ¬ (n : Int) < 1 := by omega
    have hhi : ¬ (8 : Int) < (n : Int) := by omega
    have h8n : n ≤ 8 := h8.2
    obtain ⟨R, hR⟩ : ∃ R, R = docA [] l := ⟨_, rfl⟩
    have HRr := Lib.hid hR
    rw [← hR, ← hn]
    have HI := Lib.hid an_info
    clear hA hl hk hE ha h0 hx h8 hok hn hR
    go_enter Tryz.func51, Tryz.ntmps51
    go_wp2
    obtain ⟨W1, hW1⟩ : ∃ W1, W1 = w.alloc (.map #[] 0) := ⟨_, rfl⟩
    have M0 : Hid (MapL W1 w.heap.size (keysOf (l.take 0))) := Lib.hid (by rw [hW1, List.take_zero]; exact mapL_new w)
    have G1 : Hid (w.grownBy W1 none) := Lib.hid (by rw [hW1]; exact World.grownBy_alloc _ _ _)
    rw [← hW1]
    clear hW1
    go_loopw [18, 3] (fun i lg wr => ∃ j : Nat, j ≤ n ∧ i = .int .i64 (j : Int) ∧ lg = .int .i64 (lastG l j) ∧ MapL wr w.heap.size (keysOf (l.take j)) ∧ w.grownBy wr none ∧ Upok l j ∧ docA (l.take j) (l.drop j) = R) (fun i _ _ => n - (intOf i).toNat)
    case atStart => exact ⟨0, Nat.zero_le _, rfl, rfl, M0.out, G1.out, fun i hi => absurd hi (Nat.not_lt_zero _), by rw [docA_start]; exact HRr.out.symm⟩
    case round =>
      obtain ⟨j, hj, rfl, rfl, hM, hG, hU, hD⟩ := hrel
      have HM := Lib.hid hM
      have HG := Lib.hid hG
      have HU := Lib.hid hU
      have HD := Lib.hid hD
      have HMl := Lib.hid hM.lt
      clear hM hG hU hD
      by_cases hjn : j < n
      · obtain ⟨c0, c1, c2, c3⟩ := HX.out wr HG.out j hjn
        have hln : j < l.length := by have := HLn.out; omega
        have HSt := Lib.hid (docA_step hln)
        have hop := okAt_prog HU.out hln
        rw [all_ne] at hop
        obtain ⟨x, hx⟩ : ∃ x, x = l.getD j an0 := ⟨_, rfl⟩
        have HSn := Lib.hid (take_snoc hln)
        have HXx := Lib.hid hx.symm
        have hlG : lastG l (j + 1) = x.g := by unfold lastG; rw [if_neg (by omega), Nat.add_sub_cancel, hx]
        have HLg := Lib.hid hlG
        have hks := HKs.out j hjn
        rw [← hx] at c0 c1 c2 c3 hop HSt HSn hks
        have HIx := Lib.hid (fun W (hg : w.grownBy W none) => (by have := HIs.out W hg j hjn; rw [← hx] at this; exact this : Calls Tryz.prog 74 #[x.val] W fun e w' => e = .returned (.bool (okAn x)) ∧ W.grownBy w' none))
        have HOp := Lib.hid hop
        have HKx := Lib.hid hks
        have hv : x.val = .agg #[.int .i64 x.g, .string x.k, .int .i64 x.f, .int .i64 x.t] := rfl
        rw [hv] at HIx
        obtain ⟨xg, hxg⟩ : ∃ xg, xg = x.g := ⟨_, rfl⟩
        obtain ⟨xk, hxk⟩ : ∃ xk, xk = x.k := ⟨_, rfl⟩
        obtain ⟨xf, hxf⟩ : ∃ xf, xf = x.f := ⟨_, rfl⟩
        obtain ⟨xt, hxt⟩ : ∃ xt, xt = x.t := ⟨_, rfl⟩
        rw [← hxg, ← hxk, ← hxf, ← hxt] at HIx
        rw [← hxg] at c0 HLg HOp
        rw [← hxk] at c1 HOp HKx
        rw [← hxf] at c2
        rw [← hxt] at c3
        have HXk := Lib.hid hxk
        obtain ⟨W5, hW5⟩ : ∃ W5, W5 = wr.alloc (.cells #[.int .i64 xg, .string xk, .int .i64 xf, .int .i64 xt] 33) := ⟨_, rfl⟩
        have g5 : wr.grownBy W5 none := by rw [hW5]; exact World.grownBy_alloc _ _ _
        have b5 : W5.heap[wr.heap.size]? = some (.cells #[.int .i64 xg, .string xk, .int .i64 xf, .int .i64 xt] 33 (0, 0)) := by rw [hW5]; exact alloc_at _ _
        have B5 := Lib.hid b5
        have HW5 := Lib.hid hW5
        have G5 := Lib.hid g5
        have HLk : Hid (∀ W, wr.grownBy W none → (Instr.lookup 126 (.map (some w.heap.size)) (.string xk) false).run Tryz.prog W = .ok (.bool ((l.take j).any (fun a => decide (a.k = xk)))) W) := Lib.hid (fun W hW => bk_look (mapL_of HM.out (hW.block _ HMl.out (by simp))) (HKt.out j) xk HKx.out)
        clear hx hop hlG hks hv hxg hxk hxf hxt hW5 g5 b5 hln
        obtain ⟨q1, hq1⟩ : ∃ q1, q1 = okAn x := ⟨_, rfl⟩
        obtain ⟨q3, hq3⟩ : ∃ q3, q3 = (l.take j).any (fun a => decide (a.k = xk)) := ⟨_, rfl⟩
        rw [← hq1] at HIx HOp
        rw [← hq3] at HLk HOp
        have HQ3 := Lib.hid hq3
        obtain ⟨LG, hLG⟩ : ∃ LG, LG = lastG l j := ⟨_, rfl⟩
        rw [← hLG] at HOp ⊢
        clear hq1 hq3 hLG
        cases q1 with
        | false =>
          have hR0 : R = false := by rw [← HD.out, HSt.out, HOp.out]; rfl
          have HR0 := Lib.hid hR0
          clear hR0
          go_wp2_with (first
            | (rw [← HW5.out]; refine wpList_load_row (by rfl) 33 (.tmp 6) (by rfl) wr.heap.size (by rfl) 33 #[.int .i64 xg, .string xk, .int .i64 xf, .int .i64 xt] (0, 0) _ B5.out Tryz.underlying33 rfl HI.out ?_)
            | (go_at_call 74; (try rw [← HW5.out]); refine (HIx.out _ (grown_trans HG.out G5.out)).mono ?_; rintro e w6 ⟨rfl, hg6⟩; have G6 := Lib.hid (grown_trans HG.out (grown_trans G5.out hg6)); clear hg6))
          go_ret
          exact ⟨by rw [HR0.out]; rfl, G6.out⟩
        | true =>
          by_cases hlt : LG < xg
          · cases q3 with
            | true =>
              have hR0 : R = false := by rw [← HD.out, HSt.out, HOp.out]; simp
              have HR0 := Lib.hid hR0
              have hle : ¬ xg ≤ LG := by omega
              clear hR0
              go_wp2_with (first
                | (rw [← HW5.out]; refine wpList_load_row (by rfl) 33 (.tmp 6) (by rfl) wr.heap.size (by rfl) 33 #[.int .i64 xg, .string xk, .int .i64 xf, .int .i64 xt] (0, 0) _ B5.out Tryz.underlying33 rfl HI.out ?_)
                | (go_at_call 74; (try rw [← HW5.out]); refine (HIx.out _ (grown_trans HG.out G5.out)).mono ?_; rintro e w6 ⟨rfl, hg6⟩; have G6 := Lib.hid (grown_trans HG.out (grown_trans G5.out hg6)); have hb6 := hold_b3 B5.out hg6; have d0 := cell_blk hb6 0 rfl; have d1 := cell_blk hb6 1 rfl; have lk := HLk.out w6 (grown_trans G5.out hg6); clear hg6))
              go_ret
              exact ⟨by rw [HR0.out]; rfl, G6.out⟩
            | false =>
              have hle : ¬ xg ≤ LG := by omega
              have hno : (l.take j).any (fun a => decide (a.k = x.k)) = false := by rw [← HXk.out]; exact HQ3.out.symm
              obtain ⟨es', cl', hu, hes⟩ := bk_put HM.out (HKt.out j) x (by rw [← HXk.out]; exact HKx.out) hno
              rw [← HXk.out] at hu
              rw [← HSn.out] at hes
              have HU2 := Lib.hid hu
              have HES := Lib.hid hes
              have hup : Upok l (j + 1) := HU.out.succ (by rw [HXx.out, HOp.out, decide_eq_true hlt]; rfl)
              have hd1 : docA (l.take (j + 1)) (l.drop (j + 1)) = R := by rw [← HD.out, HSt.out, HOp.out, decide_eq_true hlt]; rfl
              have HUp := Lib.hid hup
              have HD1 := Lib.hid hd1
              clear hno hu hes hup hd1
              go_wp2_with (first
                | (rw [← HW5.out]; refine wpList_load_row (by rfl) 33 (.tmp 6) (by rfl) wr.heap.size (by rfl) 33 #[.int .i64 xg, .string xk, .int .i64 xf, .int .i64 xt] (0, 0) _ B5.out Tryz.underlying33 rfl HI.out ?_)
                | (go_at_call 74; (try rw [← HW5.out]); refine (HIx.out _ (grown_trans HG.out G5.out)).mono ?_; rintro e w6 ⟨rfl, hg6⟩; have G6 := Lib.hid (grown_trans HG.out (grown_trans G5.out hg6)); have H56 := Lib.hid (grown_trans G5.out hg6); have hb6 := hold_b3 B5.out hg6; have d0 := cell_blk hb6 0 rfl; have d1 := cell_blk hb6 1 rfl; have lk := HLk.out w6 (grown_trans G5.out hg6); clear hg6))
              refine wp_region_quiet_tail (fun w' => ∃ n, w' = w6.drewN n) 6 (by kernel_rfl) (by kernel_rfl) ⟨1, rfl⟩ ?_
              simp only [List.take_succ_cons, List.take_zero, List.drop_succ_cons, List.drop_zero, Act.put, List.setIfInBounds_toArray, List.set_cons_succ, List.set_cons_zero]
              repeat (go_big_quiet_step (fail))
              refine wpQuiet_nil ?_
              rintro _ ⟨n3, rfl⟩
              (try simp only [Act.put, List.setIfInBounds_toArray, List.set_cons_succ, List.set_cons_zero])
              refine wpList_upd (by rfl) (.tmp 37) (.tmp 39) (.const (.bool true)) (by rfl) _ _ _ (by rfl) (by rfl) (by rfl) (HU2.out (w6.drewN n3) (H56.out.block w.heap.size HMl.out (by simp))) ?_
              go_wp2
              go_roundw
              case rel => exact ⟨j + 1, by omega, by go_num, by rw [HLg.out], by rw [← HES.out]; exact mapL_set (Nat.lt_of_lt_of_le HMl.out H56.out.size) _ _, grown_forget (grown_drewN G6.out n3) (Nat.le_refl _) (setB_grown _), HUp.out, HD1.out⟩
              case measure => simp [intOf]; omega
          · have hR0 : R = false := by rw [← HD.out, HSt.out, HOp.out]; simp [hlt]
            have HR0 := Lib.hid hR0
            have hle : xg ≤ LG := by omega
            clear hR0
            go_wp2_with (first
              | (rw [← HW5.out]; refine wpList_load_row (by rfl) 33 (.tmp 6) (by rfl) wr.heap.size (by rfl) 33 #[.int .i64 xg, .string xk, .int .i64 xf, .int .i64 xt] (0, 0) _ B5.out Tryz.underlying33 rfl HI.out ?_)
              | (go_at_call 74; (try rw [← HW5.out]); refine (HIx.out _ (grown_trans HG.out G5.out)).mono ?_; rintro e w6 ⟨rfl, hg6⟩; have G6 := Lib.hid (grown_trans HG.out (grown_trans G5.out hg6)); have hb6 := hold_b3 B5.out hg6; have d0 := cell_blk hb6 0 rfl; have d1 := cell_blk hb6 1 rfl; clear hg6))
            go_ret
            exact ⟨by rw [HR0.out]; rfl, G6.out⟩
      · have hR1 : R = true := by
          rw [← HD.out, show j = l.length by have := HLn.out; omega, docA_end]
        have HR1 := Lib.hid hR1
        clear hR1
        go_wp2
        go_ret
        exact ⟨by rw [HR1.out]; rfl, HG.out⟩
  · have hok : okL l = false := by unfold okL; rw [← hn, decide_eq_false h8, Bool.false_and]
    rw [hok, ← hn]
    by_cases h1 : n < 1
    · have hlo : (n : Int) < 1 := by omega
      clear hA hl hk hE ha h0 hx h8 hok hn
      go_enter Tryz.func51, Tryz.ntmps51
      go_wp2
      go_ret
      exact ⟨rfl, grown_refl _ _⟩
    · have hlo : ¬ (n : Int) < 1 := by omega
      have hhi : (8 : Int) < (n : Int) := by omega
      clear hA hl hk hE ha h0 hx h8 hok hn
      go_enter Tryz.func51, Tryz.ntmps51
      go_wp2
      go_ret
      exact ⟨rfl, grown_refl _ _⟩
end Go.Proofs.YtihioekepflpiaaGreatDoor
namespace Go.Proofs.YtihioekepflpiaaGreatDoor
open Go.RowKit Bu
theorem bd_info : (Tryz.prog.info? 24).map (·.size) = some 3 := by kernel_rfl
set_option maxRecDepth 100000 in
set_option maxHeartbeats 4000000 in
theorem bright_any (A : Nat → Addr) (v : Int) (sp : ByteArray) (a : Value) (l : List An) (w : World) (hA : Ans w a l) (hl : l.length ≤ 1000) (hk : ∀ x ∈ l, x.k.size ≤ 1000) (hsp : sp.size ≤ 1000) (hE : AllErrs w A) :
    Calls Tryz.prog 33 #[bval v sp a] w fun e w' => e = .returned (.bool (right ⟨v, sp, l⟩)) ∧ w.grownBy w' none := by
  have HAr0 := Lib.hid (fun W (hg : w.grownBy W none) => areAnchors_any A a l W (hA.grown hg) hl hk (hE.grown hg))
  obtain ⟨a0, g, o, c, rfl, -, -, -⟩ := hA.form
  obtain ⟨n, hn⟩ : ∃ n, n = l.length := ⟨_, rfl⟩
  rw [← hn] at HAr0 ⊢
  obtain ⟨w1, hw1⟩ : ∃ w1, w1 = w.alloc (.cells #[.int .i64 v, .string sp, .slice a0 n c] 24) := ⟨_, rfl⟩
  have hg1 : w.grownBy w1 none := by rw [hw1]; exact World.grownBy_alloc _ _ _
  have hb1 : w1.heap[w.heap.size]? = some (.cells #[.int .i64 v, .string sp, .slice a0 n c] 24 (0, 0)) := by rw [hw1]; exact alloc_at _ _
  have HB1 := Lib.hid hb1
  have HG1 := Lib.hid hg1
  have HW1 := Lib.hid hw1
  have HLb := Lib.hid (label_any w1 sp w1 hsp (grown_refl _ _))
  have hr : right ⟨v, sp, l⟩ = (decide (1 ≤ v ∧ v ≤ 1099511627776) && (Pt.label (strL sp) && okL l)) := rfl
  rw [hr]
  unfold bval
  have c0 := cell_blk hb1 0 rfl
  by_cases hv1 : 1 ≤ v
  · by_cases hv2 : v ≤ 1099511627776
    · rw [decide_eq_true ⟨hv1, hv2⟩, Bool.true_and]
      cases hlb : Pt.label (strL sp) with
      | false =>
        rw [hlb] at HLb
        rw [Bool.false_and]
        rw [hw1] at c0
        clear hA hl hk hsp hE hw1 hg1 hb1 hr hlb HAr0 hn
        go_enter Tryz.func33, Tryz.ntmps33
        go_wp2_with (go_at_call 50; rw [← HW1.out]; refine HLb.out.mono ?_; rintro e w2 ⟨hg2, rfl⟩; have G2 := Lib.hid hg2; clear hg2)
        go_ret
        exact ⟨rfl, grown_trans HG1.out G2.out⟩
      | true =>
        rw [hlb] at HLb
        rw [Bool.true_and]
        rw [hw1] at c0
        clear hA hl hk hsp hE hw1 hg1 hb1 hr hlb hn
        go_enter Tryz.func33, Tryz.ntmps33
        go_wp2_with (first
          | (go_at_call 50; rw [← HW1.out]; refine HLb.out.mono ?_; rintro e w2 ⟨hg2, rfl⟩; have G2 := Lib.hid (grown_trans HG1.out hg2); have hb2 := hold_b3 HB1.out hg2; have d2 := cell_blk hb2 2 rfl; clear hg2 hb2)
          | (go_at_call 51; refine (HAr0.out _ G2.out).mono ?_; rintro e w3 ⟨rfl, hg3⟩; have G3 := Lib.hid (grown_trans G2.out hg3); clear hg3))
        go_ret
        exact ⟨rfl, G3.out⟩
    · rw [decide_eq_false (by omega), Bool.false_and]
      rw [hw1] at c0
      clear hA hl hk hsp hE hw1 hb1 hr HAr0 hn HLb
      go_enter Tryz.func33, Tryz.ntmps33
      go_wp2
      go_ret
      exact ⟨rfl, by rw [← HW1.out]; exact HG1.out⟩
  · rw [decide_eq_false (by omega), Bool.false_and]
    rw [hw1] at c0
    clear hA hl hk hsp hE hw1 hb1 hr HAr0 hn HLb
    go_enter Tryz.func33, Tryz.ntmps33
    go_wp2
    go_ret
    exact ⟨rfl, by rw [← HW1.out]; exact HG1.out⟩
/-- What next answers. -/
def nextV (A : Nat → Addr) (v : Int) (sp : ByteArray) (a : Value) (l : List An) : Value :=
  if right ⟨wrap64 (v + 1), sp, l⟩ = true then .tuple #[bval (wrap64 (v + 1)) sp a, .nilIface] else .tuple #[bval 0 ⟨#[]⟩ (.slice none 0 0), errV A 4]
set_option maxRecDepth 100000 in
set_option maxHeartbeats 8000000 in
theorem bnext_any (A : Nat → Addr) (v : Int) (sp : ByteArray) (ao a : Value) (lo l : List An) (w : World) (hAo : Ans w ao lo) (hA : Ans w a l) (hl : l.length ≤ 1000) (hk : ∀ x ∈ l, x.k.size ≤ 1000) (hsp : sp.size ≤ 1000) (hE : AllErrs w A) :
    Calls Tryz.prog 22 #[bval v sp ao, a] w fun e w' => e = .returned (nextV A v sp a l) ∧ w.grownBy w' none := by
  obtain ⟨ao0, go, oo, co, rfl, -, -, -⟩ := hAo.form
  have HRt := Lib.hid (fun W (hg : w.grownBy W none) => bright_any A (wrap64 (v + 1)) sp a l W (hA.grown hg) hl hk hsp (hE.grown hg))
  obtain ⟨a0, g, o, c, rfl, -, -, -⟩ := hA.form
  have HEr := Lib.hid (fun W (hg : w.grownBy W none) => (hE.grown hg).at_ 3 (by omega))
  obtain ⟨n, hn⟩ : ∃ n, n = l.length := ⟨_, rfl⟩
  obtain ⟨no, hno⟩ : ∃ no, no = lo.length := ⟨_, rfl⟩
  rw [← hn] at HRt ⊢
  rw [← hno]
  have hI := bd_info
  unfold nextV
  obtain ⟨w4, hw4⟩ : ∃ w4, w4 = (w.alloc (.cells #[.int .i64 (wrap64 (v + 1)), .string sp, .slice a0 n c] 24)).alloc (.cells #[.int .i64 0, .string ⟨#[]⟩, .slice none 0 0] 24) := ⟨_, rfl⟩
  have hg4 : w.grownBy w4 none := by rw [hw4]; exact grown_alloc (World.grownBy_alloc _ _ _) _
  have hb4 : w4.heap[w.heap.size]? = some (.cells #[.int .i64 (wrap64 (v + 1)), .string sp, .slice a0 n c] 24 (0, 0)) := by rw [hw4]; exact alloc2_old _ _ _
  have hz4 : w4.heap[w.heap.size + 1]? = some (.cells #[.int .i64 0, .string ⟨#[]⟩, .slice none 0 0] 24 (0, 0)) := by rw [hw4]; exact alloc2_new _ _ _
  have HW4 := Lib.hid hw4
  have HG4 := Lib.hid hg4
  have HB4 := Lib.hid hb4
  have HZ4 := Lib.hid hz4
  have HEz := Lib.hid (hE.lt 3 (by omega))
  unfold bval at HRt ⊢
  cases hrt : right ⟨(wrap64 (v + 1)), sp, l⟩ with
  | true =>
    rw [hrt] at HRt
    rw [if_pos rfl]
    clear hAo hA hl hk hsp hE hn hno hw4 hg4 hb4 hz4 hrt HEr HEz
    go_enter Tryz.func22, Tryz.ntmps22
    go_wp2_with (first
      | (rw [← HW4.out]; refine wpList_load_row (by rfl) 24 (.tmp 2) (by rfl) w.heap.size (by rfl) 24 #[.int .i64 (wrap64 (v + 1)), .string sp, .slice a0 n c] (0, 0) _ HB4.out Tryz.underlying24 rfl hI ?_)
      | (go_at_call 33; (try rw [← HW4.out]); refine (HRt.out _ HG4.out).mono ?_; rintro e w5 ⟨rfl, hg5⟩; have HB5 := Lib.hid (hold_b3 HB4.out hg5); have HZ5 := Lib.hid (hold_b3 HZ4.out hg5); have HG5 := Lib.hid (grown_trans HG4.out hg5); have y0 := free_blk HZ5.out 0; have y1 := free_blk HZ5.out 1; have y2 := free_blk HZ5.out 2; have z0 := cell_blk HZ5.out 0 rfl; have z1 := cell_blk HZ5.out 1 rfl; have z2 := cell_blk HZ5.out 2 rfl; clear hg5)
      | (refine wpList_load_row (by rfl) 24 (.tmp 2) (by rfl) w.heap.size (by rfl) 24 #[.int .i64 (wrap64 (v + 1)), .string sp, .slice a0 n c] (0, 0) _ HB5.out Tryz.underlying24 rfl hI ?_))
    refine bodyPost_ret (v := .tuple #[.agg #[.int .i64 (wrap64 (v + 1)), .string sp, .slice a0 n c], .nilIface]) ?_ rfl ⟨rfl, grown_set (grown_set (grown_set HG5.out (.inl (Nat.le_succ _)) _) (.inl (Nat.le_succ _)) _) (.inl (Nat.le_succ _)) _⟩
    exact results_rowT Tryz.results22 _ _ (w.heap.size + 1) _ _ (0, 0) _ _ rfl (set3 HZ5.out) Tryz.underlying24 rfl hI rfl
  | false =>
    rw [hrt] at HRt
    rw [if_neg (by decide)]
    clear hAo hA hl hk hsp hE hn hno hw4 hg4 hb4 hz4 hrt
    go_enter Tryz.func22, Tryz.ntmps22
    go_wp2_with (first
      | (rw [← HW4.out]; refine wpList_load_row (by rfl) 24 (.tmp 2) (by rfl) w.heap.size (by rfl) 24 #[.int .i64 (wrap64 (v + 1)), .string sp, .slice a0 n c] (0, 0) _ HB4.out Tryz.underlying24 rfl hI ?_)
      | (go_at_call 33; (try rw [← HW4.out]); refine (HRt.out _ HG4.out).mono ?_; rintro e w5 ⟨rfl, hg5⟩; have HB5 := Lib.hid (hold_b3 HB4.out hg5); have HZ5 := Lib.hid (hold_b3 HZ4.out hg5); have HG5 := Lib.hid (grown_trans HG4.out hg5); have y0 := free_blk HZ5.out 0; have y1 := free_blk HZ5.out 1; have y2 := free_blk HZ5.out 2; have z0 := cell_blk HZ5.out 0 rfl; have z1 := cell_blk HZ5.out 1 rfl; have z2 := cell_blk HZ5.out 2 rfl; clear hg5))
    have he := HEr.out _ HG5.out
    have hz : 5 < w.heap.size := HEz.out
    have hz1 : w.heap.size + 1 ≠ 5 := by omega
    have hz2 : 5 ≠ w.heap.size + 1 := by omega
    replace he : w5.cell? ⟨5, 0, none⟩ = some (errV A 4) := he
    go_region
    go_wp2
    refine bodyPost_ret (v := .tuple #[.agg #[.int .i64 0, .string ⟨#[]⟩, .slice none 0 0], errV A 4]) ?_ rfl ⟨rfl, ?_⟩
    · exact results_rowT Tryz.results22 _ _ (w.heap.size + 1) _ _ (0, 0) _ _ rfl (set3 HZ5.out) Tryz.underlying24 rfl hI rfl
    · exact grown_drewN (grown_set (grown_set (grown_set HG5.out (.inl (Nat.le_succ _)) _) (.inl (Nat.le_succ _)) _) (.inl (Nat.le_succ _)) _) 1
end Go.Proofs.YtihioekepflpiaaGreatDoor
namespace Go.Proofs.YtihioekepflpiaaGreatDoor
open Go.RowKit Bu
theorem strT_inj {a b : ByteArray} (h : a.toList = b.toList) : a = b := by
  rw [ByteArray.toList_eq, ByteArray.toList_eq] at h
  obtain ⟨a⟩ := a
  obtain ⟨b⟩ := b
  exact congrArg ByteArray.mk (Array.toList_inj.1 h)
theorem beq_str (a b : ByteArray) : (a.toList == b.toList) = decide (a = b) := by
  rw [Bool.eq_iff_iff, beq_iff_eq, decide_eq_true_eq]
  exact ⟨strT_inj, fun h => by rw [h]⟩
/-- Which anchors With, Without and Find ask for. -/
def qW (a x : An) : Bool := decide (x.g = a.g) || decide (x.k = a.k)
def qG (g : Int) (x : An) : Bool := decide (x.g = g)
def qF (k : ByteArray) (g : Int) (x : An) : Bool := decide (x.k = k) && decide (x.g = g)
/-- Where the first one stands. -/
def ixB (q : An → Bool) : List An → Int
  | [] => -1
  | x :: r => if q x = true then 0 else if ixB q r = -1 then -1 else ixB q r + 1
theorem ixB_at : ∀ {l : List An} {q : An → Bool} {k : Nat}, k < l.length → (∀ j, j < k → q (l.getD j an0) = false) → q (l.getD k an0) = true → ixB q l = k
  | [], _, k, h, _, _ => absurd h (Nat.not_lt_zero _)
  | x :: r, q, 0, _, _, h => by rw [ixB, if_pos (by simpa using h)]; rfl
  | x :: r, q, k + 1, hk, hj, h => by
    rw [ixB, if_neg (by have := hj 0 (by omega); simpa using this), ixB_at (k := k) (by simpa using hk) (fun j hjk => by simpa using hj (j + 1) (by omega)) (by simpa using h), if_neg (by omega)]
    omega
theorem ixB_none : ∀ {l : List An} {q : An → Bool}, (∀ j, j < l.length → q (l.getD j an0) = false) → ixB q l = -1
  | [], _, _ => rfl
  | x :: r, q, h => by
    rw [ixB, if_neg (by have := h 0 (by simp); simpa using this), ixB_none (fun j hj => by simpa using h (j + 1) (by simpa using hj)), if_pos rfl]
set_option maxRecDepth 100000 in
set_option maxHeartbeats 2000000 in
theorem qW_any (x a : An) (p : Nat) (w : World) (hp : w.heap[p]? = some (.cells a.cs.toArray 33 (0, 0))) : Calls Tryz.prog 21 #[x.val, .pointer (some ⟨p, 0, none⟩)] w fun e w' => e = .returned (.bool (qW a x)) ∧ w.grownBy w' none := by
  obtain ⟨xg, xk, xf, xt⟩ := x
  obtain ⟨ag, ak, af, at_⟩ := a
  have hv : An.val ⟨xg, xk, xf, xt⟩ = .agg #[.int .i64 xg, .string xk, .int .i64 xf, .int .i64 xt] := rfl
  have hq : qW ⟨ag, ak, af, at_⟩ ⟨xg, xk, xf, xt⟩ = (decide (xg = ag) || decide (xk = ak)) := rfl
  replace hp : w.heap[p]? = some (.cells #[.int .i64 ag, .string ak, .int .i64 af, .int .i64 at_] 33 (0, 0)) := hp
  have hlt := blk_lt hp
  have c0 := cell_blk hp 0 rfl
  have c1 := cell_blk hp 1 rfl
  have hb := beq_str xk ak
  have HB := Lib.hid hb
  rw [hv, hq]
  clear hv hq hp hb
  by_cases hg : xg = ag
  · subst hg
    go_enter Tryz.func21, Tryz.ntmps21
    go_wp2
    go_ret
    exact ⟨by simp, grown_alloc (grown_refl _ _) _⟩
  · have hg2 : (xg == ag) = false := by rw [beq_eq_false_iff_ne]; exact hg
    go_enter Tryz.func21, Tryz.ntmps21
    go_wp2
    go_ret
    exact ⟨by simp [hg, HB.out], grown_alloc (grown_refl _ _) _⟩
set_option maxRecDepth 100000 in
set_option maxHeartbeats 2000000 in
theorem ixW_any (v : Value) (l : List An) (a : An) (p9 : Nat) (w : World) (hA : Ans w v l) (hp : w.heap[p9]? = some (.cells a.cs.toArray 33 (0, 0))) (hl : l.length ≤ 2000) :
    Calls Tryz.prog 27 #[v, .func (.func 21) #[] #[.pointer (some ⟨p9, 0, none⟩)]] w fun e w' => e = .returned (.int .i64 (ixB (qW a) l)) ∧ w.grownBy w' none := by
  obtain ⟨a1, b1, s1, c1, rfl, ha1, _, hx1⟩ := hA.form
  have HOf := Lib.hid (fun W (hg : w.grownBy W none) p => qW_any p a p9 W ((hg.block p9 (blk_lt hp) (by simp)).trans hp))
  have HX1 := Lib.hid (fun W (hg : w.grownBy W none) i (hi : i < l.length) => (show W.cell? ⟨b1, s1 + i * 4, none⟩ = some (.int .i64 (l.getD i an0).g) ∧ W.cell? ⟨b1, s1 + i * 4 + 1, none⟩ = some (.string (l.getD i an0).k) ∧ W.cell? ⟨b1, s1 + i * 4 + 2, none⟩ = some (.int .i64 (l.getD i an0).f) ∧ W.cell? ⟨b1, s1 + i * 4 + 3, none⟩ = some (.int .i64 (l.getD i an0).t) from by
    have hb := hg.block b1 (ha1 (by omega)).2 (by simp)
    obtain ⟨k1, k2, k3, k4⟩ := hx1 i hi
    exact ⟨(World.cell?_of_block hb).trans k1, (World.cell?_of_block hb).trans k2, (World.cell?_of_block hb).trans k3, (World.cell?_of_block hb).trans k4⟩))
  obtain ⟨q, hq⟩ : ∃ q, q = qW a := ⟨_, rfl⟩
  rw [← hq] at HOf ⊢
  have HF : Hid (∀ k, k < l.length → (∀ j, j < k → q (l.getD j an0) = false) → q (l.getD k an0) = true → ixB q l = k) := Lib.hid (fun k => ixB_at)
  have HNn : Hid ((∀ j, j < l.length → q (l.getD j an0) = false) → ixB q l = -1) := Lib.hid ixB_none
  generalize ixB q l = R at *
  obtain ⟨N, hN⟩ : ∃ N, N = l.length := ⟨_, rfl⟩
  have HA1 : Hid (0 < N → a1 = some ⟨b1, s1, none⟩) := Lib.hid (fun h => (ha1 (by omega)).1)
  rw [← hN] at HX1 HF HNn
  rw [← hN]
  have hNl : N ≤ 2000 := by omega
  clear ha1 hx1 hl hN hA hq hp
  go_enter Tryz.func27, Tryz.ntmps27
  go_wp2
  go_loopw [8, 5] (fun i _ wr => ∃ k : Nat, k ≤ N ∧ i = .int .i64 (k : Int) ∧ w.grownBy wr none ∧ ∀ j, j < k → q (l.getD j an0) = false) (fun i _ _ => N - (intOf i).toNat)
  case atStart => exact ⟨0, by omega, rfl, grown_refl _ _, fun j hj => absurd hj (Nat.not_lt_zero _)⟩
  case round =>
    obtain ⟨k, hk, rfl, hg, h0⟩ := hrel
    have HG := Lib.hid hg
    have H0 := Lib.hid h0
    clear hg h0
    by_cases hkN : k < N
    · obtain ⟨x0, x1, x2, x3⟩ := HX1.out wr HG.out k hkN
      obtain rfl := HA1.out (by omega)
      have HC := Lib.hid (HOf.out wr HG.out (l.getD k an0))
      have HVl : Hid ((l.getD k an0).val = .agg #[.int .i64 (l.getD k an0).g, .string (l.getD k an0).k, .int .i64 (l.getD k an0).f, .int .i64 (l.getD k an0).t]) := Lib.hid rfl
      rw [HVl.out] at HC
      clear HVl
      cases he : q (l.getD k an0) with
      | true =>
        rw [he] at HC
        have HY : Hid (R = k) := Lib.hid (HF.out k hkN H0.out he)
        generalize (l.getD k an0).g = p1 at *
        generalize (l.getD k an0).k = p2 at *
        generalize (l.getD k an0).f = p3 at *
        generalize (l.getD k an0).t = p4 at *
        clear he
        go_wp2_with (go_at_call 21; refine HC.out.mono ?_; rintro e w2 ⟨rfl, hg2⟩; have HG2 := Lib.hid (grown_trans HG.out hg2); clear hg2)
        go_ret
        exact ⟨by rw [HY.out]; rfl, HG2.out⟩
      | false =>
        rw [he] at HC
        have HN2 : Hid (∀ j, j < k + 1 → q (l.getD j an0) = false) := Lib.hid (fun j hj => by
          rcases Nat.lt_or_ge j k with h | h
          · exact H0.out j h
          · obtain rfl : j = k := by omega
            exact he)
        generalize (l.getD k an0).g = p1 at *
        generalize (l.getD k an0).k = p2 at *
        generalize (l.getD k an0).f = p3 at *
        generalize (l.getD k an0).t = p4 at *
        clear he
        go_wp2_with (go_at_call 21; refine HC.out.mono ?_; rintro e w2 ⟨rfl, hg2⟩; have HG2 := Lib.hid (grown_trans HG.out hg2); clear hg2)
        go_roundw
        case rel => exact ⟨k + 1, by omega, by go_num, HG2.out, HN2.out⟩
        case measure => simp [intOf]; omega
    · obtain rfl : k = N := by omega
      have HY : Hid (R = -1) := Lib.hid (HNn.out H0.out)
      go_wp2
      go_ret
      exact ⟨by rw [HY.out]; rfl, HG.out⟩
set_option maxRecDepth 100000 in
set_option maxHeartbeats 2000000 in
theorem qG_any (x : An) (g : Int) (p : Nat) (w : World) (hp : w.cell? ⟨p, 0, none⟩ = some (.int .i64 g)) : Calls Tryz.prog 28 #[x.val, .pointer (some ⟨p, 0, none⟩)] w fun e w' => e = .returned (.bool (qG g x)) ∧ w.grownBy w' none := by
  obtain ⟨xg, xk, xf, xt⟩ := x
  have hv : An.val ⟨xg, xk, xf, xt⟩ = .agg #[.int .i64 xg, .string xk, .int .i64 xf, .int .i64 xt] := rfl
  have hq : qG g ⟨xg, xk, xf, xt⟩ = decide (xg = g) := rfl
  have hlt : p < w.heap.size := World.block_lt_of_cell? w _ hp
  have hb : (xg == g) = decide (xg = g) := by rw [Bool.eq_iff_iff, beq_iff_eq, decide_eq_true_eq]
  have HB := Lib.hid hb
  rw [hv, hq]
  clear hv hq hb
  go_enter Tryz.func28, Tryz.ntmps28
  go_wp2
  go_ret
  exact ⟨by first | rfl | rw [← HB.out], grown_alloc (grown_refl _ _) _⟩
set_option maxRecDepth 100000 in
set_option maxHeartbeats 2000000 in
theorem ixG_any (v : Value) (l : List An) (g : Int) (p9 : Nat) (w : World) (hA : Ans w v l) (hp : w.cell? ⟨p9, 0, none⟩ = some (.int .i64 g)) (hl : l.length ≤ 2000) :
    Calls Tryz.prog 27 #[v, .func (.func 28) #[] #[.pointer (some ⟨p9, 0, none⟩)]] w fun e w' => e = .returned (.int .i64 (ixB (qG g) l)) ∧ w.grownBy w' none := by
  obtain ⟨a1, b1, s1, c1, rfl, ha1, _, hx1⟩ := hA.form
  have HOf := Lib.hid (fun W (hg : w.grownBy W none) p => qG_any p g p9 W ((World.cell?_of_block (hg.block p9 (World.block_lt_of_cell? w _ hp) (by simp))).trans hp))
  have HX1 := Lib.hid (fun W (hg : w.grownBy W none) i (hi : i < l.length) => (show W.cell? ⟨b1, s1 + i * 4, none⟩ = some (.int .i64 (l.getD i an0).g) ∧ W.cell? ⟨b1, s1 + i * 4 + 1, none⟩ = some (.string (l.getD i an0).k) ∧ W.cell? ⟨b1, s1 + i * 4 + 2, none⟩ = some (.int .i64 (l.getD i an0).f) ∧ W.cell? ⟨b1, s1 + i * 4 + 3, none⟩ = some (.int .i64 (l.getD i an0).t) from by
    have hb := hg.block b1 (ha1 (by omega)).2 (by simp)
    obtain ⟨k1, k2, k3, k4⟩ := hx1 i hi
    exact ⟨(World.cell?_of_block hb).trans k1, (World.cell?_of_block hb).trans k2, (World.cell?_of_block hb).trans k3, (World.cell?_of_block hb).trans k4⟩))
  obtain ⟨q, hq⟩ : ∃ q, q = qG g := ⟨_, rfl⟩
  rw [← hq] at HOf ⊢
  have HF : Hid (∀ k, k < l.length → (∀ j, j < k → q (l.getD j an0) = false) → q (l.getD k an0) = true → ixB q l = k) := Lib.hid (fun k => ixB_at)
  have HNn : Hid ((∀ j, j < l.length → q (l.getD j an0) = false) → ixB q l = -1) := Lib.hid ixB_none
  generalize ixB q l = R at *
  obtain ⟨N, hN⟩ : ∃ N, N = l.length := ⟨_, rfl⟩
  have HA1 : Hid (0 < N → a1 = some ⟨b1, s1, none⟩) := Lib.hid (fun h => (ha1 (by omega)).1)
  rw [← hN] at HX1 HF HNn
  rw [← hN]
  have hNl : N ≤ 2000 := by omega
  clear ha1 hx1 hl hN hA hq hp
  go_enter Tryz.func27, Tryz.ntmps27
  go_wp2
  go_loopw [8, 5] (fun i _ wr => ∃ k : Nat, k ≤ N ∧ i = .int .i64 (k : Int) ∧ w.grownBy wr none ∧ ∀ j, j < k → q (l.getD j an0) = false) (fun i _ _ => N - (intOf i).toNat)
  case atStart => exact ⟨0, by omega, rfl, grown_refl _ _, fun j hj => absurd hj (Nat.not_lt_zero _)⟩
  case round =>
    obtain ⟨k, hk, rfl, hg, h0⟩ := hrel
    have HG := Lib.hid hg
    have H0 := Lib.hid h0
    clear hg h0
    by_cases hkN : k < N
    · obtain ⟨x0, x1, x2, x3⟩ := HX1.out wr HG.out k hkN
      obtain rfl := HA1.out (by omega)
      have HC := Lib.hid (HOf.out wr HG.out (l.getD k an0))
      have HVl : Hid ((l.getD k an0).val = .agg #[.int .i64 (l.getD k an0).g, .string (l.getD k an0).k, .int .i64 (l.getD k an0).f, .int .i64 (l.getD k an0).t]) := Lib.hid rfl
      rw [HVl.out] at HC
      clear HVl
      cases he : q (l.getD k an0) with
      | true =>
        rw [he] at HC
        have HY : Hid (R = k) := Lib.hid (HF.out k hkN H0.out he)
        generalize (l.getD k an0).g = p1 at *
        generalize (l.getD k an0).k = p2 at *
        generalize (l.getD k an0).f = p3 at *
        generalize (l.getD k an0).t = p4 at *
        clear he
        go_wp2_with (go_at_call 28; refine HC.out.mono ?_; rintro e w2 ⟨rfl, hg2⟩; have HG2 := Lib.hid (grown_trans HG.out hg2); clear hg2)
        go_ret
        exact ⟨by rw [HY.out]; rfl, HG2.out⟩
      | false =>
        rw [he] at HC
        have HN2 : Hid (∀ j, j < k + 1 → q (l.getD j an0) = false) := Lib.hid (fun j hj => by
          rcases Nat.lt_or_ge j k with h | h
          · exact H0.out j h
          · obtain rfl : j = k := by omega
            exact he)
        generalize (l.getD k an0).g = p1 at *
        generalize (l.getD k an0).k = p2 at *
        generalize (l.getD k an0).f = p3 at *
        generalize (l.getD k an0).t = p4 at *
        clear he
        go_wp2_with (go_at_call 28; refine HC.out.mono ?_; rintro e w2 ⟨rfl, hg2⟩; have HG2 := Lib.hid (grown_trans HG.out hg2); clear hg2)
        go_roundw
        case rel => exact ⟨k + 1, by omega, by go_num, HG2.out, HN2.out⟩
        case measure => simp [intOf]; omega
    · obtain rfl : k = N := by omega
      have HY : Hid (R = -1) := Lib.hid (HNn.out H0.out)
      go_wp2
      go_ret
      exact ⟨by rw [HY.out]; rfl, HG.out⟩
set_option maxRecDepth 100000 in
set_option maxHeartbeats 2000000 in
theorem qF_any (x : An) (k : ByteArray) (g : Int) (p p2 : Nat) (w : World) (hp : w.cell? ⟨p, 0, none⟩ = some (.string k)) (hp2 : w.cell? ⟨p2, 0, none⟩ = some (.int .i64 g)) : Calls Tryz.prog 31 #[x.val, .pointer (some ⟨p, 0, none⟩), .pointer (some ⟨p2, 0, none⟩)] w fun e w' => e = .returned (.bool (qF k g x)) ∧ w.grownBy w' none := by
  obtain ⟨xg, xk, xf, xt⟩ := x
  have hv : An.val ⟨xg, xk, xf, xt⟩ = .agg #[.int .i64 xg, .string xk, .int .i64 xf, .int .i64 xt] := rfl
  have hq : qF k g ⟨xg, xk, xf, xt⟩ = (decide (xk = k) && decide (xg = g)) := rfl
  have hlt : p < w.heap.size := World.block_lt_of_cell? w _ hp
  have hlt2 : p2 < w.heap.size := World.block_lt_of_cell? w _ hp2
  have hb : (xg == g) = decide (xg = g) := by rw [Bool.eq_iff_iff, beq_iff_eq, decide_eq_true_eq]
  have HB := Lib.hid hb
  rw [hv, hq]
  clear hv hq hb
  by_cases hk : xk = k
  · subst hk
    go_enter Tryz.func31, Tryz.ntmps31
    go_wp2
    go_ret
    exact ⟨by first | (simp; done) | (simp [← HB.out]; done) | simp [HB.out], grown_alloc (grown_refl _ _) _⟩
  · have hk2 : ¬ xk.toList = k.toList := fun h => hk (strT_inj h)
    go_enter Tryz.func31, Tryz.ntmps31
    go_wp2
    go_ret
    exact ⟨by simp [hk], grown_alloc (grown_refl _ _) _⟩
set_option maxRecDepth 100000 in
set_option maxHeartbeats 2000000 in
theorem ixF_any (v : Value) (l : List An) (k9 : ByteArray) (g : Int) (p9 p8 : Nat) (w : World) (hA : Ans w v l) (hp : w.cell? ⟨p9, 0, none⟩ = some (.string k9)) (hp8 : w.cell? ⟨p8, 0, none⟩ = some (.int .i64 g)) (hl : l.length ≤ 2000) :
    Calls Tryz.prog 27 #[v, .func (.func 31) #[] #[.pointer (some ⟨p9, 0, none⟩), .pointer (some ⟨p8, 0, none⟩)]] w fun e w' => e = .returned (.int .i64 (ixB (qF k9 g) l)) ∧ w.grownBy w' none := by
  obtain ⟨a1, b1, s1, c1, rfl, ha1, _, hx1⟩ := hA.form
  have HOf := Lib.hid (fun W (hg : w.grownBy W none) p => qF_any p k9 g p9 p8 W ((World.cell?_of_block (hg.block p9 (World.block_lt_of_cell? w _ hp) (by simp))).trans hp) ((World.cell?_of_block (hg.block p8 (World.block_lt_of_cell? w _ hp8) (by simp))).trans hp8))
  have HX1 := Lib.hid (fun W (hg : w.grownBy W none) i (hi : i < l.length) => (show W.cell? ⟨b1, s1 + i * 4, none⟩ = some (.int .i64 (l.getD i an0).g) ∧ W.cell? ⟨b1, s1 + i * 4 + 1, none⟩ = some (.string (l.getD i an0).k) ∧ W.cell? ⟨b1, s1 + i * 4 + 2, none⟩ = some (.int .i64 (l.getD i an0).f) ∧ W.cell? ⟨b1, s1 + i * 4 + 3, none⟩ = some (.int .i64 (l.getD i an0).t) from by
    have hb := hg.block b1 (ha1 (by omega)).2 (by simp)
    obtain ⟨k1, k2, k3, k4⟩ := hx1 i hi
    exact ⟨(World.cell?_of_block hb).trans k1, (World.cell?_of_block hb).trans k2, (World.cell?_of_block hb).trans k3, (World.cell?_of_block hb).trans k4⟩))
  obtain ⟨q, hq⟩ : ∃ q, q = qF k9 g := ⟨_, rfl⟩
  rw [← hq] at HOf ⊢
  have HF : Hid (∀ k, k < l.length → (∀ j, j < k → q (l.getD j an0) = false) → q (l.getD k an0) = true → ixB q l = k) := Lib.hid (fun k => ixB_at)
  have HNn : Hid ((∀ j, j < l.length → q (l.getD j an0) = false) → ixB q l = -1) := Lib.hid ixB_none
  generalize ixB q l = R at *
  obtain ⟨N, hN⟩ : ∃ N, N = l.length := ⟨_, rfl⟩
  have HA1 : Hid (0 < N → a1 = some ⟨b1, s1, none⟩) := Lib.hid (fun h => (ha1 (by omega)).1)
  rw [← hN] at HX1 HF HNn
  rw [← hN]
  have hNl : N ≤ 2000 := by omega
  clear ha1 hx1 hl hN hA hq hp hp8
  go_enter Tryz.func27, Tryz.ntmps27
  go_wp2
  go_loopw [8, 5] (fun i _ wr => ∃ k : Nat, k ≤ N ∧ i = .int .i64 (k : Int) ∧ w.grownBy wr none ∧ ∀ j, j < k → q (l.getD j an0) = false) (fun i _ _ => N - (intOf i).toNat)
  case atStart => exact ⟨0, by omega, rfl, grown_refl _ _, fun j hj => absurd hj (Nat.not_lt_zero _)⟩
  case round =>
    obtain ⟨k, hk, rfl, hg, h0⟩ := hrel
    have HG := Lib.hid hg
    have H0 := Lib.hid h0
    clear hg h0
    by_cases hkN : k < N
    · obtain ⟨x0, x1, x2, x3⟩ := HX1.out wr HG.out k hkN
      obtain rfl := HA1.out (by omega)
      have HC := Lib.hid (HOf.out wr HG.out (l.getD k an0))
      have HVl : Hid ((l.getD k an0).val = .agg #[.int .i64 (l.getD k an0).g, .string (l.getD k an0).k, .int .i64 (l.getD k an0).f, .int .i64 (l.getD k an0).t]) := Lib.hid rfl
      rw [HVl.out] at HC
      clear HVl
      cases he : q (l.getD k an0) with
      | true =>
        rw [he] at HC
        have HY : Hid (R = k) := Lib.hid (HF.out k hkN H0.out he)
        generalize (l.getD k an0).g = p1 at *
        generalize (l.getD k an0).k = p2 at *
        generalize (l.getD k an0).f = p3 at *
        generalize (l.getD k an0).t = p4 at *
        clear he
        go_wp2_with (go_at_call 31; refine HC.out.mono ?_; rintro e w2 ⟨rfl, hg2⟩; have HG2 := Lib.hid (grown_trans HG.out hg2); clear hg2)
        go_ret
        exact ⟨by rw [HY.out]; rfl, HG2.out⟩
      | false =>
        rw [he] at HC
        have HN2 : Hid (∀ j, j < k + 1 → q (l.getD j an0) = false) := Lib.hid (fun j hj => by
          rcases Nat.lt_or_ge j k with h | h
          · exact H0.out j h
          · obtain rfl : j = k := by omega
            exact he)
        generalize (l.getD k an0).g = p1 at *
        generalize (l.getD k an0).k = p2 at *
        generalize (l.getD k an0).f = p3 at *
        generalize (l.getD k an0).t = p4 at *
        clear he
        go_wp2_with (go_at_call 31; refine HC.out.mono ?_; rintro e w2 ⟨rfl, hg2⟩; have HG2 := Lib.hid (grown_trans HG.out hg2); clear hg2)
        go_roundw
        case rel => exact ⟨k + 1, by omega, by go_num, HG2.out, HN2.out⟩
        case measure => simp [intOf]; omega
    · obtain rfl : k = N := by omega
      have HY : Hid (R = -1) := Lib.hid (HNn.out H0.out)
      go_wp2
      go_ret
      exact ⟨by rw [HY.out]; rfl, HG.out⟩
end Go.Proofs.YtihioekepflpiaaGreatDoor
namespace Go.Proofs.YtihioekepflpiaaGreatDoor
open Go.RowKit Bu
theorem ixB_cases : ∀ (l : List An) (q : An → Bool), (∃ j : Nat, j < l.length ∧ ixB q l = j ∧ q (l.getD j an0) = true) ∨ ixB q l = -1
  | [], _ => .inr rfl
  | x :: r, q => by
    by_cases e : q x = true
    · exact .inl ⟨0, by simp, by rw [ixB, if_pos e]; rfl, by simpa using e⟩
    · rcases ixB_cases r q with ⟨j, h1, h2, h3⟩ | h2
      · exact .inl ⟨j + 1, by simpa using h1, by rw [ixB, if_neg e, h2, if_neg (by omega)]; omega, by simpa using h3⟩
      · exact .inr (by rw [ixB, if_neg e, h2, if_pos rfl])
theorem set4 {w : World} {b : Nat} {x y z u x' y' z' u' : Value} {t : TypeId} (h : w.heap[b]? = some (.cells #[x, y, z, u] t (0, 0))) : ((((w.setCell ⟨b, 0, none⟩ x').setCell ⟨b, 1, none⟩ y').setCell ⟨b, 2, none⟩ z').setCell ⟨b, 3, none⟩ u').heap[b]? = some (.cells #[x', y', z', u'] t (0, 0)) := by
  simpa using setCell_heap (i := 3) (setCell_heap (i := 2) (setCell_heap (i := 1) (setCell_heap (i := 0) h x') y') z') u'
/-- What Find answers. -/
def findV (l : List An) (k : ByteArray) (g : Int) : Value := if ixB (qF k g) l = -1 then .tuple #[an0.val, .bool false] else .tuple #[(l.getD (ixB (qF k g) l).toNat an0).val, .bool true]
set_option maxRecDepth 100000 in
set_option maxHeartbeats 4000000 in
theorem bfind_any (v : Int) (sp : ByteArray) (a : Value) (l : List An) (k : ByteArray) (g : Int) (w : World) (hA : Ans w a l) (hl : l.length ≤ 2000) :
    Calls Tryz.prog 14 #[bval v sp a, .string k, .int .i64 g] w fun e w' => e = .returned (findV l k g) ∧ w.grownBy w' none := by
  have hI := an_info
  obtain ⟨w1, hw1⟩ : ∃ w1, w1 = (((w.alloc (.cells #[.int .i64 v, .string sp, a] 24)).alloc (.cells #[.string k] 9)).alloc (.cells #[.int .i64 g] 3)).alloc (.cells #[.int .i64 0, .string ⟨#[]⟩, .int .i64 0, .int .i64 0] 33) := ⟨_, rfl⟩
  have hg1 : w.grownBy w1 none := by rw [hw1]; exact grown_alloc (grown_alloc (grown_alloc (World.grownBy_alloc _ _ _) _) _) _
  have b0 : w1.heap[w.heap.size]? = some (.cells #[.int .i64 v, .string sp, a] 24 (0, 0)) := by rw [hw1]; exact alloc_keep (alloc_keep (alloc2_old _ _ _))
  have b1 : w1.heap[w.heap.size + 1]? = some (.cells #[.string k] 9 (0, 0)) := by rw [hw1]; exact alloc_keep (alloc_keep (alloc2_new _ _ _))
  have b2 : w1.heap[w.heap.size + 2]? = some (.cells #[.int .i64 g] 3 (0, 0)) := by
    rw [hw1]; refine alloc_keep ?_
    have := alloc2_new (w.alloc (.cells #[.int .i64 v, .string sp, a] 24)) (.cells #[.string k] 9) (.cells #[.int .i64 g] 3)
    rw [alloc_size] at this; exact this
  have b3 : w1.heap[w.heap.size + 3]? = some (.cells #[.int .i64 0, .string ⟨#[]⟩, .int .i64 0, .int .i64 0] 33 (0, 0)) := by
    rw [hw1]
    have := alloc_at (((w.alloc (.cells #[.int .i64 v, .string sp, a] 24)).alloc (.cells #[.string k] 9)).alloc (.cells #[.int .i64 g] 3)) (.cells #[.int .i64 0, .string ⟨#[]⟩, .int .i64 0, .int .i64 0] 33)
    rw [alloc_size, alloc_size, alloc_size] at this; exact this
  have HIx := Lib.hid (ixF_any a l k g (w.heap.size + 1) (w.heap.size + 2) w1 (hA.grown hg1) (cell_blk b1 0 rfl) (cell_blk b2 0 rfl) hl)
  obtain ⟨a1, g1, s1, c1, rfl, ha1, _, hx1⟩ := hA.form
  have HX1 := Lib.hid (fun W (hg : w.grownBy W none) i (hi : i < l.length) => (show W.cell? ⟨g1, s1 + i * 4, none⟩ = some (.int .i64 (l.getD i an0).g) ∧ W.cell? ⟨g1, s1 + i * 4 + 1, none⟩ = some (.string (l.getD i an0).k) ∧ W.cell? ⟨g1, s1 + i * 4 + 2, none⟩ = some (.int .i64 (l.getD i an0).f) ∧ W.cell? ⟨g1, s1 + i * 4 + 3, none⟩ = some (.int .i64 (l.getD i an0).t) from by
    have hb := hg.block g1 (ha1 (by omega)).2 (by simp)
    obtain ⟨k1, k2, k3, k4⟩ := hx1 i hi
    exact ⟨(World.cell?_of_block hb).trans k1, (World.cell?_of_block hb).trans k2, (World.cell?_of_block hb).trans k3, (World.cell?_of_block hb).trans k4⟩))
  have HCs := Lib.hid (ixB_cases l (qF k g))
  unfold findV
  generalize ixB (qF k g) l = R at *
  obtain ⟨n, hn⟩ : ∃ n, n = l.length := ⟨_, rfl⟩
  have HA1 : Hid (0 < n → a1 = some ⟨g1, s1, none⟩) := Lib.hid (fun h => (ha1 (by omega)).1)
  rw [← hn] at HX1 HCs b0 hw1 HIx hl ⊢
  have HB0 := Lib.hid b0
  have HB3 := Lib.hid b3
  have HG1 := Lib.hid hg1
  have d0 := cell_blk b0 2 rfl
  rw [hw1] at d0
  have HW1 := Lib.hid hw1
  unfold bval
  rcases HCs.out with ⟨j, hj, hR, -⟩ | hR
  · rw [if_neg (by omega), hR]
    rw [hR] at HIx
    rw [show ((j : Nat) : Int).toNat = j by omega]
    have hv : (l.getD j an0).val = .agg #[.int .i64 (l.getD j an0).g, .string (l.getD j an0).k, .int .i64 (l.getD j an0).f, .int .i64 (l.getD j an0).t] := rfl
    rw [hv]
    obtain rfl := HA1.out (by omega)
    have HXj := Lib.hid (fun W hg => HX1.out W hg j hj)
    have hjn : (j : Int) < (n : Int) := by omega
    generalize (l.getD j an0).g = p1 at *
    generalize (l.getD j an0).k = p2 at *
    generalize (l.getD j an0).f = p3 at *
    generalize (l.getD j an0).t = p4 at *
    clear hA hl hw1 hg1 b0 b1 b2 b3 ha1 hx1 hn hv hR HX1 HCs
    go_enter Tryz.func14, Tryz.ntmps14
    go_wp2_with (go_at_call 27; rw [← HW1.out]; refine HIx.out.mono ?_; rintro e w2 ⟨rfl, hg2⟩; have hg := grown_trans HG1.out hg2; obtain ⟨x0, x1, x2, x3⟩ := HXj.out _ hg; have B0 := hold_b3 HB0.out hg2; have q2 := cell_blk B0 2 rfl; have HZ := Lib.hid (hold_b3 HB3.out hg2); have y0 := free_blk HZ.out 0; have y1 := free_blk HZ.out 1; have y2 := free_blk HZ.out 2; have y3 := free_blk HZ.out 3; have z0 := cell_blk HZ.out 0 rfl; have z1 := cell_blk HZ.out 1 rfl; have z2 := cell_blk HZ.out 2 rfl; have z3 := cell_blk HZ.out 3 rfl; have HG2 := Lib.hid hg; clear hg hg2 B0)
    refine bodyPost_ret (v := .tuple #[.agg #[.int .i64 p1, .string p2, .int .i64 p3, .int .i64 p4], .bool true]) ?_ rfl ⟨rfl, grown_set (grown_set (grown_set (grown_set HG2.out (.inl (Nat.le_add_right _ 3)) _) (.inl (Nat.le_add_right _ 3)) _) (.inl (Nat.le_add_right _ 3)) _) (.inl (Nat.le_add_right _ 3)) _⟩
    exact results_rowT Tryz.results14 _ _ (w.heap.size + 3) _ _ (0, 0) _ _ rfl (set4 HZ.out) Tryz.underlying33 rfl hI rfl
  · rw [if_pos hR]
    have hv : an0.val = .agg #[.int .i64 0, .string ⟨#[]⟩, .int .i64 0, .int .i64 0] := rfl
    rw [hv]
    rw [hR] at HIx
    clear hA hl hw1 hg1 b0 b1 b2 b3 ha1 hx1 hn hv hR HX1 HCs
    go_enter Tryz.func14, Tryz.ntmps14
    go_wp2_with (go_at_call 27; rw [← HW1.out]; refine HIx.out.mono ?_; rintro e w2 ⟨rfl, hg2⟩; have hg := grown_trans HG1.out hg2; have HZ := Lib.hid (hold_b3 HB3.out hg2); have y0 := free_blk HZ.out 0; have y1 := free_blk HZ.out 1; have y2 := free_blk HZ.out 2; have y3 := free_blk HZ.out 3; have z0 := cell_blk HZ.out 0 rfl; have z1 := cell_blk HZ.out 1 rfl; have z2 := cell_blk HZ.out 2 rfl; have z3 := cell_blk HZ.out 3 rfl; have HG2 := Lib.hid hg; clear hg hg2)
    refine bodyPost_ret (v := .tuple #[.agg #[.int .i64 0, .string ⟨#[]⟩, .int .i64 0, .int .i64 0], .bool false]) ?_ rfl ⟨rfl, grown_set (grown_set (grown_set (grown_set HG2.out (.inl (Nat.le_add_right _ 3)) _) (.inl (Nat.le_add_right _ 3)) _) (.inl (Nat.le_add_right _ 3)) _) (.inl (Nat.le_add_right _ 3)) _⟩
    exact results_rowT Tryz.results14 _ _ (w.heap.size + 3) _ _ (0, 0) _ _ rfl (set4 HZ.out) Tryz.underlying33 rfl hI rfl
end Go.Proofs.YtihioekepflpiaaGreatDoor
namespace Go.Proofs.YtihioekepflpiaaGreatDoor
open Go.RowKit Bu
theorem an_ne {p q : An} (h : p ≠ q) : (p.g ≠ q.g) ∨ (p.g = q.g ∧ ¬ p.k.toList = q.k.toList) ∨ (p.g = q.g ∧ p.k = q.k ∧ p.f ≠ q.f) ∨ (p.g = q.g ∧ p.k = q.k ∧ p.f = q.f ∧ p.t ≠ q.t) := by
  by_cases h1 : p.g = q.g
  · by_cases h2 : p.k = q.k
    · by_cases h3 : p.f = q.f
      · refine .inr (.inr (.inr ⟨h1, h2, h3, fun h4 => h ?_⟩))
        cases p; cases q
        simp only at h1 h2 h3 h4
        rw [h1, h2, h3, h4]
      · exact .inr (.inr (.inl ⟨h1, h2, h3⟩))
    · exact .inr (.inl ⟨h1, fun h3 => h2 (strT_inj h3)⟩)
  · exact .inl h1
theorem an_ext {l m : List An} (h : l.length = m.length) (h2 : ∀ j, j < l.length → l.getD j an0 = m.getD j an0) : l = m := by
  apply List.ext_getElem h
  intro i hi hi2
  have := h2 i hi
  rw [List.getD_eq_getElem?_getD, List.getD_eq_getElem?_getD, List.getElem?_eq_getElem hi, List.getElem?_eq_getElem hi2] at this
  simpa using this
theorem Ans.cells_at {w : World} {a : Option Addr} {g o : Nat} {l : List An} (ha : 0 < l.length → a = some ⟨g, o, none⟩ ∧ g < w.heap.size) (hx : ∀ i, i < l.length → w.cell? ⟨g, o + i * 4, none⟩ = some (.int .i64 (l.getD i an0).g) ∧ w.cell? ⟨g, o + i * 4 + 1, none⟩ = some (.string (l.getD i an0).k) ∧ w.cell? ⟨g, o + i * 4 + 2, none⟩ = some (.int .i64 (l.getD i an0).f) ∧ w.cell? ⟨g, o + i * 4 + 3, none⟩ = some (.int .i64 (l.getD i an0).t)) :
    ∀ W, w.grownBy W none → ∀ i, i < l.length → W.cell? ⟨g, o + i * 4, none⟩ = some (.int .i64 (l.getD i an0).g) ∧ W.cell? ⟨g, o + i * 4 + 1, none⟩ = some (.string (l.getD i an0).k) ∧ W.cell? ⟨g, o + i * 4 + 2, none⟩ = some (.int .i64 (l.getD i an0).f) ∧ W.cell? ⟨g, o + i * 4 + 3, none⟩ = some (.int .i64 (l.getD i an0).t) := by
  intro W hg i hi
  have hb := hg.block g (ha (by omega)).2 (by simp)
  obtain ⟨k1, k2, k3, k4⟩ := hx i hi
  exact ⟨(World.cell?_of_block hb).trans k1, (World.cell?_of_block hb).trans k2, (World.cell?_of_block hb).trans k3, (World.cell?_of_block hb).trans k4⟩
end Go.Proofs.YtihioekepflpiaaGreatDoor
namespace Go.Proofs.YtihioekepflpiaaGreatDoor
open Go.RowKit Bu
theorem ran_info : (Tryz.prog.info? 42).map (·.size) = some 4 := by kernel_rfl
set_option maxRecDepth 100000 in
set_option maxHeartbeats 8000000 in
theorem refFind_any (v : Int) (sp : ByteArray) (a : Value) (l : List An) (k : ByteArray) (g : Int) (w : World) (hA : Ans w a l) (hl : l.length ≤ 2000) :
    Calls Tryz.prog 15 #[bval v sp a, .string k, .int .i64 g] w fun e w' => e = .returned (findV l k g) ∧ w.grownBy w' none := by
  have hI := ran_info
  obtain ⟨w1, hw1⟩ : ∃ w1, w1 = (w.alloc (.cells #[.int .i64 v, .string sp, a] 30)).alloc (.cells #[.int .i64 0, .string ⟨#[]⟩, .int .i64 0, .int .i64 0] 42) := ⟨_, rfl⟩
  have hg1 : w.grownBy w1 none := by rw [hw1]; exact grown_alloc (World.grownBy_alloc _ _ _) _
  have b0 : w1.heap[w.heap.size]? = some (.cells #[.int .i64 v, .string sp, a] 30 (0, 0)) := by rw [hw1]; exact alloc2_old _ _ _
  have b3 : w1.heap[w.heap.size + 1]? = some (.cells #[.int .i64 0, .string ⟨#[]⟩, .int .i64 0, .int .i64 0] 42 (0, 0)) := by rw [hw1]; exact alloc2_new _ _ _
  obtain ⟨a1, g1, s1, c1, rfl, ha1, _, hx1⟩ := hA.form
  have HX1 := Lib.hid (Ans.cells_at ha1 hx1)
  have HF : Hid (∀ j, j < l.length → (∀ i, i < j → qF k g (l.getD i an0) = false) → qF k g (l.getD j an0) = true → ixB (qF k g) l = j) := Lib.hid (fun j => ixB_at)
  have HNn : Hid ((∀ j, j < l.length → qF k g (l.getD j an0) = false) → ixB (qF k g) l = -1) := Lib.hid ixB_none
  obtain ⟨V, hV⟩ : ∃ V, V = findV l k g := ⟨_, rfl⟩
  rw [← hV]
  unfold findV at hV
  generalize ixB (qF k g) l = R at *
  have HVV := Lib.hid hV
  clear hV
  obtain ⟨N, hN⟩ : ∃ N, N = l.length := ⟨_, rfl⟩
  have HA1 : Hid (0 < N → a1 = some ⟨g1, s1, none⟩) := Lib.hid (fun h => (ha1 (by omega)).1)
  rw [← hN] at HX1 HF HNn b0 hw1 hl ⊢
  have HW1 := Lib.hid hw1
  have HB3 := Lib.hid b3
  have HG1 := Lib.hid hg1
  have d0 := cell_blk b0 2 rfl
  rw [hw1] at d0
  unfold bval
  clear hA hw1 hg1 b0 b3 ha1 hx1 hN
  go_enter Tryz.func15, Tryz.ntmps15
  go_wp2
  rw [← HW1.out]
  go_loopw [13, 9] (fun i _ wr => ∃ j : Nat, j ≤ N ∧ i = .int .i64 (j : Int) ∧ w.grownBy wr none ∧ wr.heap[w.heap.size + 1]? = some (.cells #[.int .i64 0, .string ⟨#[]⟩, .int .i64 0, .int .i64 0] 42 (0, 0)) ∧ ∀ i, i < j → qF k g (l.getD i an0) = false) (fun i _ _ => N - (intOf i).toNat)
  case atStart => exact ⟨0, by omega, rfl, HG1.out, HB3.out, fun j hj => absurd hj (Nat.not_lt_zero _)⟩
  case round =>
    obtain ⟨j, hj, rfl, hg, hz, h0⟩ := hrel
    have HG := Lib.hid hg
    have HZ0 := Lib.hid hz
    have H0 := Lib.hid h0
    clear hg hz h0
    by_cases hjN : j < N
    · obtain ⟨x0, x1, x2, x3⟩ := HX1.out wr HG.out j hjN
      obtain rfl := HA1.out (by omega)
      have hq : qF k g (l.getD j an0) = (decide ((l.getD j an0).k = k) && decide ((l.getD j an0).g = g)) := rfl
      have hv : (l.getD j an0).val = .agg #[.int .i64 (l.getD j an0).g, .string (l.getD j an0).k, .int .i64 (l.getD j an0).f, .int .i64 (l.getD j an0).t] := rfl
      have HHit : Hid (qF k g (l.getD j an0) = true → R = j) := Lib.hid (fun h => HF.out j hjN H0.out h)
      have HMis : Hid (qF k g (l.getD j an0) = false → ∀ i, i < j + 1 → qF k g (l.getD i an0) = false) := Lib.hid (fun he i hi => by
        rcases Nat.lt_or_ge i j with h | h
        · exact H0.out i h
        · obtain rfl : i = j := by omega
          exact he)
      have HRv : Hid (R = j → V = .tuple #[.agg #[.int .i64 (l.getD j an0).g, .string (l.getD j an0).k, .int .i64 (l.getD j an0).f, .int .i64 (l.getD j an0).t], .bool true]) := Lib.hid (fun h => by rw [HVV.out, h, if_neg (by omega), show ((j : Nat) : Int).toNat = j by omega, hv])
      rw [hq] at HHit HMis
      clear hq hv
      generalize (l.getD j an0).g = p1 at *
      generalize (l.getD j an0).k = p2 at *
      generalize (l.getD j an0).f = p3 at *
      generalize (l.getD j an0).t = p4 at *
      have HZ := Lib.hid (alloc_keep (o := .cells #[.int .i64 p1, .string p2, .int .i64 p3, .int .i64 p4] 42) HZ0.out)
      have HBn := Lib.hid (alloc_at wr (.cells #[.int .i64 p1, .string p2, .int .i64 p3, .int .i64 p4] 42))
      have HGn := Lib.hid (grown_alloc HG.out (.cells #[.int .i64 p1, .string p2, .int .i64 p3, .int .i64 p4] 42))
      by_cases hk : p2 = k
      · subst hk
        by_cases hg : p1 = g
        · subst hg
          have HY := Lib.hid (HRv.out (HHit.out (by simp)))
          have y0 := free_blk HZ.out 0
          have y1 := free_blk HZ.out 1
          have y2 := free_blk HZ.out 2
          have y3 := free_blk HZ.out 3
          have z0 := cell_blk HZ.out 0 rfl
          have z1 := cell_blk HZ.out 1 rfl
          have z2 := cell_blk HZ.out 2 rfl
          have z3 := cell_blk HZ.out 3 rfl
          go_wp2_with (refine wpList_load_row (by rfl) 42 (.tmp 9) (by rfl) wr.heap.size (by rfl) 42 #[.int .i64 p1, .string p2, .int .i64 p3, .int .i64 p4] (0, 0) _ HBn.out Tryz.underlying42 rfl hI ?_)
          refine bodyPost_ret (v := .tuple #[.agg #[.int .i64 p1, .string p2, .int .i64 p3, .int .i64 p4], .bool true]) ?_ rfl ⟨by rw [HY.out], grown_set (grown_set (grown_set (grown_set HGn.out (.inl (Nat.le_succ _)) _) (.inl (Nat.le_succ _)) _) (.inl (Nat.le_succ _)) _) (.inl (Nat.le_succ _)) _⟩
          exact results_rowT Tryz.results15 _ _ (w.heap.size + 1) _ _ (0, 0) _ _ rfl (set4 HZ.out) Tryz.underlying42 rfl hI rfl
        · have HN2 := Lib.hid (HMis.out (by simp [hg]))
          go_wp2
          go_roundw
          case rel => exact ⟨j + 1, by omega, by go_num, HGn.out, HZ.out, HN2.out⟩
          case measure => simp [intOf] <;> omega
      · have hk2 : ¬ p2.toList = k.toList := fun h => hk (strT_inj h)
        have HN2 := Lib.hid (HMis.out (by simp [hk]))
        go_wp2
        go_roundw
        case rel => exact ⟨j + 1, by omega, by go_num, HGn.out, HZ.out, HN2.out⟩
        case measure => simp [intOf] <;> omega
    · obtain rfl : j = N := by omega
      have HY := Lib.hid (HNn.out H0.out)
      have hv : an0.val = .agg #[.int .i64 0, .string ⟨#[]⟩, .int .i64 0, .int .i64 0] := rfl
      have y0 := free_blk HZ0.out 0
      have y1 := free_blk HZ0.out 1
      have y2 := free_blk HZ0.out 2
      have y3 := free_blk HZ0.out 3
      have z0 := cell_blk HZ0.out 0 rfl
      have z1 := cell_blk HZ0.out 1 rfl
      have z2 := cell_blk HZ0.out 2 rfl
      have z3 := cell_blk HZ0.out 3 rfl
      go_wp2
      refine bodyPost_ret (v := .tuple #[.agg #[.int .i64 0, .string ⟨#[]⟩, .int .i64 0, .int .i64 0], .bool false]) ?_ rfl ⟨by rw [HVV.out, if_pos HY.out, hv], grown_set (grown_set (grown_set (grown_set HG.out (.inl (Nat.le_succ _)) _) (.inl (Nat.le_succ _)) _) (.inl (Nat.le_succ _)) _) (.inl (Nat.le_succ _)) _⟩
      exact results_rowT Tryz.results15 _ _ (w.heap.size + 1) _ _ (0, 0) _ _ rfl (set4 HZ0.out) Tryz.underlying42 rfl hI rfl
end Go.Proofs.YtihioekepflpiaaGreatDoor
namespace Go.Proofs.YtihioekepflpiaaGreatDoor
open Go.RowKit Bu
set_option maxRecDepth 100000 in
set_option maxHeartbeats 8000000 in
theorem refSameB_any (v u : Int) (sp sq : ByteArray) (a b : Value) (l m : List An) (w : World) (hA : Ans w a l) (hB : Ans w b m) (hl : l.length ≤ 2000) (hm : m.length ≤ 2000) :
    Calls Tryz.prog 13 #[bval v sp a, bval u sq b] w fun e w' => (∃ q : Bool, e = .returned (.bool q) ∧ (q = true ↔ (v = u ∧ sp = sq ∧ l = m))) ∧ w.grownBy w' none := by
  obtain ⟨w1, hw1⟩ : ∃ w1, w1 = (w.alloc (.cells #[.int .i64 v, .string sp, a] 30)).alloc (.cells #[.int .i64 u, .string sq, b] 30) := ⟨_, rfl⟩
  have hg1 : w.grownBy w1 none := by rw [hw1]; exact grown_alloc (World.grownBy_alloc _ _ _) _
  have b0 : w1.heap[w.heap.size]? = some (.cells #[.int .i64 v, .string sp, a] 30 (0, 0)) := by rw [hw1]; exact alloc2_old _ _ _
  have b1 : w1.heap[w.heap.size + 1]? = some (.cells #[.int .i64 u, .string sq, b] 30 (0, 0)) := by rw [hw1]; exact alloc2_new _ _ _
  obtain ⟨a1, g1, s1, c1, rfl, ha1, _, hx1⟩ := (hA.grown hg1).form
  obtain ⟨a2, g2, s2, c2, rfl, ha2, _, hx2⟩ := (hB.grown hg1).form
  have HW1 := Lib.hid hw1
  have HG1 := Lib.hid hg1
  unfold bval
  by_cases hv : v = u
  · subst hv
    by_cases hs : sp = sq
    · subst hs
      by_cases hnm : l.length = m.length
      · have HX1 := Lib.hid (Ans.cells_at ha1 hx1)
        have HX2 := Lib.hid (Ans.cells_at ha2 hx2)
        have HEx : Hid ((∀ j, j < l.length → l.getD j an0 = m.getD j an0) → l = m) := Lib.hid (fun h => an_ext hnm h)
        obtain ⟨N, hN⟩ : ∃ N, N = l.length := ⟨_, rfl⟩
        have HA1 : Hid (0 < N → a1 = some ⟨g1, s1, none⟩) := Lib.hid (fun h => (ha1 (by omega)).1)
        have HA2 : Hid (0 < N → a2 = some ⟨g2, s2, none⟩) := Lib.hid (fun h => (ha2 (by omega)).1)
        rw [← hN] at HX1 HEx hnm b0 HW1 ⊢
        rw [← hnm] at HX2 b1 HW1 ⊢
        have HB0 := Lib.hid b0
        have HB1 := Lib.hid b1
        have hNl : N ≤ 2000 := by omega
        clear hA hB hl hm ha1 ha2 hx1 hx2 hN hnm hw1 hg1 b0 b1
        go_enter Tryz.func13, Tryz.ntmps13
        go_wp2
        rw [← HW1.out]
        go_loopw [30, 5] (fun i _ wr => ∃ k : Nat, k ≤ N ∧ i = .int .i64 (k : Int) ∧ w1.grownBy wr none ∧ ∀ j, j < k → l.getD j an0 = m.getD j an0) (fun i _ _ => N - (intOf i).toNat)
        case atStart => exact ⟨0, by omega, rfl, grown_refl _ _, fun j hj => absurd hj (Nat.not_lt_zero _)⟩
        case round =>
          obtain ⟨k, hk, rfl, hg, h0⟩ := hrel
          have HG := Lib.hid hg
          have H0 := Lib.hid h0
          clear hg h0
          by_cases hkN : k < N
          · obtain ⟨x0, x1, x2, x3⟩ := HX1.out wr HG.out k hkN
            obtain ⟨y0, y1, y2, y3⟩ := HX2.out wr HG.out k hkN
            have e0 := cell_blk (hold_b3 HB0.out HG.out) 2 rfl
            have e1 := cell_blk (hold_b3 HB1.out HG.out) 2 rfl
            obtain rfl := HA1.out (by omega)
            have ha2 := HA2.out (by omega)
            try subst ha2
            try clear ha2
            by_cases he : l.getD k an0 = m.getD k an0
            · have HN2 : Hid (∀ j, j < k + 1 → l.getD j an0 = m.getD j an0) := Lib.hid (fun j hj => by
                rcases Nat.lt_or_ge j k with h | h
                · exact H0.out j h
                · obtain rfl : j = k := by omega
                  exact he)
              rw [← he] at y0 y1 y2 y3
              generalize (l.getD k an0).g = p1 at *
              generalize (l.getD k an0).k = p2 at *
              generalize (l.getD k an0).f = p3 at *
              generalize (l.getD k an0).t = p4 at *
              clear he
              go_wp2
              go_quiet (fail)
              go_wp2
              go_roundw
              case rel => exact ⟨k + 1, by omega, by go_num, grown_drewN HG.out _, HN2.out⟩
              case measure => simp [intOf] <;> omega
            · have HNe : Hid (l ≠ m) := Lib.hid (fun h => he (by rw [h]))
              have hc := an_ne he
              generalize (l.getD k an0).g = p1 at *
              generalize (l.getD k an0).k = p2 at *
              generalize (l.getD k an0).f = p3 at *
              generalize (l.getD k an0).t = p4 at *
              generalize (m.getD k an0).g = q1 at *
              generalize (m.getD k an0).k = q2 at *
              generalize (m.getD k an0).f = q3 at *
              generalize (m.getD k an0).t = q4 at *
              clear he
              rcases hc with hc | ⟨rfl, hc⟩ | ⟨rfl, rfl, hc⟩ | ⟨rfl, rfl, rfl, hc⟩
              all_goals
                go_wp2
                go_quiet (fail)
                go_wp2
                go_ret
                exact ⟨⟨false, rfl, ⟨fun h => (by cases h), fun h => absurd h.2.2 HNe.out⟩⟩, grown_drewN (grown_trans HG1.out HG.out) _⟩
          · obtain rfl : k = N := by omega
            have HY := Lib.hid (HEx.out H0.out)
            go_wp2
            go_ret
            exact ⟨⟨true, rfl, ⟨fun _ => ⟨trivial, trivial, HY.out⟩, fun _ => rfl⟩⟩, grown_trans HG1.out HG.out⟩
      · have hne : ¬ (l.length : Int) = (m.length : Int) := by omega
        have HNe : Hid (l ≠ m) := Lib.hid (fun h => hnm (by rw [h]))
        clear hA hB hl hm ha1 ha2 hx1 hx2 hnm hw1 hg1 b0 b1
        generalize l.length = N at *
        generalize m.length = M at *
        go_enter Tryz.func13, Tryz.ntmps13
        go_wp2
        go_ret
        exact ⟨⟨false, rfl, ⟨fun h => (by cases h), fun h => absurd h.2.2 HNe.out⟩⟩, by rw [← HW1.out]; exact HG1.out⟩
    · have hs2 : ¬ sp.toList = sq.toList := fun h => hs (strT_inj h)
      clear hA hB hl hm hw1 hg1 b0 b1 ha1 ha2 hx1 hx2
      go_enter Tryz.func13, Tryz.ntmps13
      go_wp2
      go_ret
      exact ⟨⟨false, rfl, by simp [hs]⟩, by rw [← HW1.out]; exact HG1.out⟩
  · have hv2 : (v == u) = false := by rw [beq_eq_false_iff_ne]; exact hv
    have hv3 : (v != u) = true := by rw [bne_iff_ne]; exact hv
    clear hA hB hl hm hw1 hg1 b0 b1 ha1 ha2 hx1 hx2
    go_enter Tryz.func13, Tryz.ntmps13
    go_wp2
    go_ret
    exact ⟨⟨false, rfl, by simp [hv]⟩, by rw [← HW1.out]; exact HG1.out⟩
end Go.Proofs.YtihioekepflpiaaGreatDoor
