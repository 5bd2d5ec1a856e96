import Derived.Test.YtgdnndapmcjoeaaDoorKe21
import Derived.Test.YtgdnndapmcjoeaaDoorKe33
import Derived.Test.YtgdnndapmcjoeaaDoorKe35
import Derived.Test.YtgdnndapmcjoeaaDoorKe36
namespace Go.Proofs.YtgdnndapmcjoeaaDoor
open Go.RowKit Go.Maps
set_option linter.unusedVariables false
section
variable {P : Program} {ops : Array Oper} {md : Region.Mode} {C : World → Prop} {S : World → World → Prop} {F : Nat → Value → World → Prop} {a0 : Act} {D : List Nat} {j : Nat} {o : Oper}
theorem kflow_skip (hw : ∀ us w, C w → (∀ k, k ∈ depsOf md o → F k (us (dstOf ops k)) w) → ¬ Wants ops o a0 D us)
    (hS : ∀ w, S w w) (hF : ∀ w, F j undef w) : FlowAt P md ops C S F a0 D j o := by
  intro us w hC hd' Q hQ
  unfold wpList
  rw [if_neg (show ¬ Region.wanted o (yielded ops (fill a0 D us).tmps) = true from hw us w hC hd')]
  exact hQ undef w (hS w) (hF _)
theorem kwants_off {us : Nat → Value} {k d : Nat} {b : Bool} (h : o.guard = some (k, b)) (hk : (ops[k]?).bind (·.dst) = some d) (hd : D.contains d = true) (hl : d < a0.tmps.size) (hu : us d = .bool (!b)) : ¬ Wants ops o a0 D us := by
  unfold Wants Region.wanted
  rw [h]
  cases b <;> simp [yielded, hk, fill_at hd hl, hu]
end
section
variable {P : Program} {o : Oper} {a : Act} {w : World}
theorem kneqstr_ne {t r : TypeId} {x y : Operand} {s s2 : ByteArray} (hne : s ≠ s2) (ho : o.op = .binOp .neq t x y r) (hx : a.eval x = .string s) (hy : a.eval y = .string s2) : (execOp a.eval o).run P w = .ok (.value (.bool true)) w := by
  have h : (s.toList == s2.toList) = false := by rw [← kBeq]; exact decide_eq_false hne
  simp only [execOp, ho, hx, hy]
  simp [eqGuard, Sem.run_pure, binOp, Op.stringOp, bne, h]
theorem kpick_true {c x y : Operand} {v : Value} (ho : o.op = .pick c x y) (hc : a.eval c = .bool true) (hx : a.eval x = v) : (execOp a.eval o).run P w = .ok (.value v) w := by
  simp [execOp, ho, hc, hx, Sem.run_pure, asBool]
end
set_option maxRecDepth 100000 in
set_option maxHeartbeats 1000000 in
theorem rv_region6q (q2 : Bool) (a : Act) (m g14 : Nat) (id dom S X : ByteArray) (sv mv : Value) (W w : World) (Q : Exit → Act → World → Prop) (hsz : a.tmps.size = 49)
    (h0 : a.eval (.tmp 0) = .pointer (some ⟨m, 0, none⟩)) (h1 : a.eval (.tmp 1) = .string id) (h2 : a.eval (.tmp 2) = .string dom) (h3 : a.eval (.tmp 3) = mv) (h4 : a.eval (.tmp 4) = sv) (h14 : a.eval (.tmp 14) = .pointer (some ⟨g14, 0, none⟩))
    (hS1 : ∀ w, W.grownBy w none → (convert 22 9 (.slice (some ⟨g14, 0, none⟩) 32 32)).run Tryd.prog w = .ok (.string S) w) (hS2 : ∀ w, W.grownBy w none → (convert 22 9 sv).run Tryd.prog w = .ok (.string S) w) (hX : ∀ w, W.grownBy w none → (convert 22 9 mv).run Tryd.prog w = .ok (.string X) w)
    (hI : ∀ w, W.grownBy w none → Calls Tryd.prog 41 #[.pointer (some ⟨m, 0, none⟩), .agg #[.string id, .string dom, .string X]] w fun e w' => e = .returned (.bool q2) ∧ w.grownBy w' none)
    (hw : W.grownBy { w with drawn := w.drawn + 1 } none)
    (hQ : ∀ us w', W.grownBy w' none → Q .normal ((fill a [34, 35, 36, 37, 38, 39, 40, 41, 42, 43, 44, 45, 46, 47] us).put (some 48) (.bool (!q2))) w') : rvRegion6.wp Tryd.prog Q a w := by
  have hcf : ∀ args w, (callFunc 41 args).run Tryd.prog w = .ok (.enter 41 args) w := fun _ _ => by simp [go_sem]
  conv => arg 2; whnf
  refine wp_region_flow 14 [34, 35, 36, 37, 38, 39, 40, 41, 42, 43, 44, 45, 46, 47] (fun w' => W.grownBy w' none) (fun w w' => w.grownBy w' none) (r6F [.slice (some ⟨g14, 0, none⟩) 32 32, .string S, sv, .string S, .bool false, .bool false, .pointer (some ⟨m, 0, none⟩), .string id, .string dom, mv, .string X, .agg #[.string id, .string dom, .string X], .bool q2, .bool (!q2)]) (by kernel_rfl) (by kernel_rfl) (fun _ _ h k => grown_trans k h) (fun _ _ _ _ _ k => k) hw ?_ ?_
  · refine ⟨?_, ?_, ?_, ?_, ?_, ?_, ?_, ?_, ?_, ?_, ?_, ?_, ?_, ?_, trivial⟩
    · exact flow_step (fun us w hC hd => wants_free rfl) (fun us w hC hd => ⟨_, w, kSlice g14 w rfl ((fill_old (by rfl)).trans h14), grown_refl _ _, rfl⟩)
    · exact flow_step (fun us w hC hd => wants_free rfl) (fun us w hC hd => ⟨_, w, kconv_val rfl ((fill_tmp (by rfl) (by rw [hsz]; decide)).trans (hd 0 (by decide))) (hS1 w hC), grown_refl _ _, rfl⟩)
    · exact flow_step (fun us w hC hd => wants_free rfl) (fun us w hC hd => ⟨_, w, move_val rfl ((fill_old (by rfl)).trans h4), grown_refl _ _, rfl⟩)
    · exact flow_step (fun us w hC hd => wants_free rfl) (fun us w hC hd => ⟨_, w, kconv_val rfl ((fill_tmp (by rfl) (by rw [hsz]; decide)).trans (hd 2 (by decide))) (hS2 w hC), grown_refl _ _, rfl⟩)
    · exact flow_step (fun us w hC hd => wants_free rfl) (fun us w hC hd => ⟨_, w, kneqstr_val rfl ((fill_tmp (by rfl) (by rw [hsz]; decide)).trans (hd 1 (by decide))) ((fill_tmp (by rfl) (by rw [hsz]; decide)).trans (hd 3 (by decide))), grown_refl _ _, rfl⟩)
    · exact flow_step (fun us w hC hd => wants_free rfl) (fun us w hC hd => ⟨_, w, move_val rfl ((fill_tmp (by rfl) (by rw [hsz]; decide)).trans (hd 4 (by decide))), grown_refl _ _, rfl⟩)
    · exact flow_step (fun us w hC hd => wants_on (d := 39) (b := false) rfl rfl (by rfl) (by rw [hsz]; decide) (hd 5 (by decide))) (fun us w hC hd => ⟨_, w, move_val rfl ((fill_old (by rfl)).trans h0), grown_refl _ _, rfl⟩)
    · exact flow_step (fun us w hC hd => wants_on (d := 39) (b := false) rfl rfl (by rfl) (by rw [hsz]; decide) (hd 5 (by decide))) (fun us w hC hd => ⟨_, w, move_val rfl ((fill_old (by rfl)).trans h1), grown_refl _ _, rfl⟩)
    · exact flow_step (fun us w hC hd => wants_on (d := 39) (b := false) rfl rfl (by rfl) (by rw [hsz]; decide) (hd 5 (by decide))) (fun us w hC hd => ⟨_, w, move_val rfl ((fill_old (by rfl)).trans h2), grown_refl _ _, rfl⟩)
    · exact flow_step (fun us w hC hd => wants_on (d := 39) (b := false) rfl rfl (by rfl) (by rw [hsz]; decide) (hd 5 (by decide))) (fun us w hC hd => ⟨_, w, move_val rfl ((fill_old (by rfl)).trans h3), grown_refl _ _, rfl⟩)
    · exact flow_step (fun us w hC hd => wants_on (d := 39) (b := false) rfl rfl (by rfl) (by rw [hsz]; decide) (hd 5 (by decide))) (fun us w hC hd => ⟨_, w, kconv_val rfl ((fill_tmp (by rfl) (by rw [hsz]; decide)).trans (hd 9 (by decide))) (hX w hC), grown_refl _ _, rfl⟩)
    · exact flow_step (fun us w hC hd => wants_on (d := 39) (b := false) rfl rfl (by rfl) (by rw [hsz]; decide) (hd 5 (by decide))) (fun us w hC hd => ⟨_, w, kBuildLn w rfl ((fill_tmp (by rfl) (by rw [hsz]; decide)).trans (hd 7 (by decide))) ((fill_tmp (by rfl) (by rw [hsz]; decide)).trans (hd 8 (by decide))) ((fill_tmp (by rfl) (by rw [hsz]; decide)).trans (hd 10 (by decide))), grown_refl _ _, rfl⟩)
    · refine flow_call 41 (fun us => #[us 40, us 45]) (fun us w hC hd => wants_on (d := 39) (b := false) rfl rfl (by rfl) (by rw [hsz]; decide) (hd 5 (by decide))) (fun us w => by rw [call_enter rfl hcf, List.map_toArray, List.map_cons, List.map_cons, List.map_nil, fill_tmp (by rfl) (by rw [hsz]; decide), fill_tmp (by rfl) (by rw [hsz]; decide)]) (fun us w hC' hd => ?_)
      rw [show us 40 = .pointer (some ⟨m, 0, none⟩) from hd 6 (by decide), show us 45 = .agg #[.string id, .string dom, .string X] from hd 11 (by decide)]
      refine (hI w hC').mono ?_
      rintro e w' ⟨rfl, hg⟩
      exact ⟨_, rfl, hg, rfl⟩
    · exact flow_step (fun us w hC hd => wants_on (d := 39) (b := false) rfl rfl (by rfl) (by rw [hsz]; decide) (hd 5 (by decide))) (fun us w hC hd => ⟨_, w, knot_val rfl ((fill_tmp (by rfl) (by rw [hsz]; decide)).trans (hd 12 (by decide))), grown_refl _ _, rfl⟩)
  · intro us w' hC' hF
    have e5 : us 39 = .bool false := hF 5 (by decide)
    have e13 : us 47 = .bool (!q2) := hF 13 (by decide)
    refine wpList_plain rfl fun K hK => ?_
    have e1 : (fill a [34, 35, 36, 37, 38, 39, 40, 41, 42, 43, 44, 45, 46, 47] us).eval (.tmp 39) = .bool false := (fill_tmp (by rfl) (by rw [hsz]; decide)).trans e5
    have e2 : (fill a [34, 35, 36, 37, 38, 39, 40, 41, 42, 43, 44, 45, 46, 47] us).eval (.tmp 47) = .bool (!q2) := (fill_tmp (by rfl) (by rw [hsz]; decide)).trans e13
    unfold Oper.wp
    rw [kpick_false (x := .const (.bool true)) rfl e1 e2]
    exact hK _ _ (hQ us w' hC')
set_option maxRecDepth 100000 in
set_option maxHeartbeats 1000000 in
theorem rv_region6n (S S2 : ByteArray) (hne : S ≠ S2) (a : Act) (m g14 : Nat) (id dom X : ByteArray) (sv mv : Value) (W w : World) (Q : Exit → Act → World → Prop) (hsz : a.tmps.size = 49)
    (h0 : a.eval (.tmp 0) = .pointer (some ⟨m, 0, none⟩)) (h1 : a.eval (.tmp 1) = .string id) (h2 : a.eval (.tmp 2) = .string dom) (h3 : a.eval (.tmp 3) = mv) (h4 : a.eval (.tmp 4) = sv) (h14 : a.eval (.tmp 14) = .pointer (some ⟨g14, 0, none⟩))
    (hS1 : ∀ w, W.grownBy w none → (convert 22 9 (.slice (some ⟨g14, 0, none⟩) 32 32)).run Tryd.prog w = .ok (.string S) w) (hS2 : ∀ w, W.grownBy w none → (convert 22 9 sv).run Tryd.prog w = .ok (.string S2) w)
    (hw : W.grownBy { w with drawn := w.drawn + 1 } none)
    (hQ : ∀ us w', W.grownBy w' none → Q .normal ((fill a [34, 35, 36, 37, 38, 39, 40, 41, 42, 43, 44, 45, 46, 47] us).put (some 48) (.bool true)) w') : rvRegion6.wp Tryd.prog Q a w := by
  have hcf : ∀ args w, (callFunc 41 args).run Tryd.prog w = .ok (.enter 41 args) w := fun _ _ => by simp [go_sem]
  conv => arg 2; whnf
  refine wp_region_flow 14 [34, 35, 36, 37, 38, 39, 40, 41, 42, 43, 44, 45, 46, 47] (fun w' => W.grownBy w' none) (fun w w' => w.grownBy w' none) (r6F [.slice (some ⟨g14, 0, none⟩) 32 32, .string S, sv, .string S2, .bool true, .bool true, undef, undef, undef, undef, undef, undef, undef, undef]) (by kernel_rfl) (by kernel_rfl) (fun _ _ h k => grown_trans k h) (fun _ _ _ _ _ k => k) hw ?_ ?_
  · refine ⟨?_, ?_, ?_, ?_, ?_, ?_, ?_, ?_, ?_, ?_, ?_, ?_, ?_, ?_, trivial⟩
    · exact flow_step (fun us w hC hd => wants_free rfl) (fun us w hC hd => ⟨_, w, kSlice g14 w rfl ((fill_old (by rfl)).trans h14), grown_refl _ _, rfl⟩)
    · exact flow_step (fun us w hC hd => wants_free rfl) (fun us w hC hd => ⟨_, w, kconv_val rfl ((fill_tmp (by rfl) (by rw [hsz]; decide)).trans (hd 0 (by decide))) (hS1 w hC), grown_refl _ _, rfl⟩)
    · exact flow_step (fun us w hC hd => wants_free rfl) (fun us w hC hd => ⟨_, w, move_val rfl ((fill_old (by rfl)).trans h4), grown_refl _ _, rfl⟩)
    · exact flow_step (fun us w hC hd => wants_free rfl) (fun us w hC hd => ⟨_, w, kconv_val rfl ((fill_tmp (by rfl) (by rw [hsz]; decide)).trans (hd 2 (by decide))) (hS2 w hC), grown_refl _ _, rfl⟩)
    · exact flow_step (fun us w hC hd => wants_free rfl) (fun us w hC hd => ⟨_, w, kneqstr_ne hne rfl ((fill_tmp (by rfl) (by rw [hsz]; decide)).trans (hd 1 (by decide))) ((fill_tmp (by rfl) (by rw [hsz]; decide)).trans (hd 3 (by decide))), grown_refl _ _, rfl⟩)
    · exact flow_step (fun us w hC hd => wants_free rfl) (fun us w hC hd => ⟨_, w, move_val rfl ((fill_tmp (by rfl) (by rw [hsz]; decide)).trans (hd 4 (by decide))), grown_refl _ _, rfl⟩)
    · exact kflow_skip (fun us w hC hd => kwants_off (d := 39) (b := false) rfl rfl (by rfl) (by rw [hsz]; decide) (hd 5 (by decide))) (fun _ => grown_refl _ _) (fun _ => rfl)
    · exact kflow_skip (fun us w hC hd => kwants_off (d := 39) (b := false) rfl rfl (by rfl) (by rw [hsz]; decide) (hd 5 (by decide))) (fun _ => grown_refl _ _) (fun _ => rfl)
    · exact kflow_skip (fun us w hC hd => kwants_off (d := 39) (b := false) rfl rfl (by rfl) (by rw [hsz]; decide) (hd 5 (by decide))) (fun _ => grown_refl _ _) (fun _ => rfl)
    · exact kflow_skip (fun us w hC hd => kwants_off (d := 39) (b := false) rfl rfl (by rfl) (by rw [hsz]; decide) (hd 5 (by decide))) (fun _ => grown_refl _ _) (fun _ => rfl)
    · exact kflow_skip (fun us w hC hd => kwants_off (d := 39) (b := false) rfl rfl (by rfl) (by rw [hsz]; decide) (hd 5 (by decide))) (fun _ => grown_refl _ _) (fun _ => rfl)
    · exact kflow_skip (fun us w hC hd => kwants_off (d := 39) (b := false) rfl rfl (by rfl) (by rw [hsz]; decide) (hd 5 (by decide))) (fun _ => grown_refl _ _) (fun _ => rfl)
    · exact kflow_skip (fun us w hC hd => kwants_off (d := 39) (b := false) rfl rfl (by rfl) (by rw [hsz]; decide) (hd 5 (by decide))) (fun _ => grown_refl _ _) (fun _ => rfl)
    · exact kflow_skip (fun us w hC hd => kwants_off (d := 39) (b := false) rfl rfl (by rfl) (by rw [hsz]; decide) (hd 5 (by decide))) (fun _ => grown_refl _ _) (fun _ => rfl)
  · intro us w' hC' hF
    have e5 : us 39 = .bool true := hF 5 (by decide)
    refine wpList_plain rfl fun K hK => ?_
    have e1 : (fill a [34, 35, 36, 37, 38, 39, 40, 41, 42, 43, 44, 45, 46, 47] us).eval (.tmp 39) = .bool true := (fill_tmp (by rfl) (by rw [hsz]; decide)).trans e5
    unfold Oper.wp
    rw [kpick_true (x := .const (.bool true)) rfl e1 rfl]
    exact hK _ _ (hQ us w' hC')
set_option maxRecDepth 100000 in
set_option maxHeartbeats 2000000 in
theorem refVerify_all (w : World) (m : Nat) (kv bv sv : Value) (ks : List (ByteArray × List Nat)) (bk : List (ByteArray × ByteArray × ByteArray)) (id dom : ByteArray) (hd : dom.size ≤ 1000) (va : Option Addr) (n vc : Nat) (msg k sg : List Nat) (hB : Bytes w (.slice va n vc) msg) (hB0 : Whole0 (.slice va n vc)) (hb : w.heap[m]? = some (.cells #[kv, bv] 43 (0, 0))) (hK : KeysV w kv ks) (hl : ks.length ≤ 1000)
    (hLn : LinesV w bv bk) (hlb : bk.length ≤ 1000) (hk : fd ks id = some k) (hk32 : k.length = 32) (he : fErr (strL dom) [msg] = 0) (hS : Bytes w sv sg) :
    Calls Tryd.prog 28 #[.pointer (some ⟨m, 0, none⟩), .string id, .string dom, .slice va n vc, sv] w fun e w' => e = .returned (.int .i64 ((if Hm.hmac k (frameOf (strL dom) [msg]) = sg ∧ (id, dom, strOf msg) ∈ bk then 0 else 12 : Nat) : Int)) ∧ w.grownBy w' none := by
  have ha := asked_any w m kv bv ks id dom hd va n vc msg hB hB0 hb hK (by omega)
  have e0 : askE ks id dom msg = 0 := by unfold askE; rw [hk, if_neg (by simp)]; exact he
  rw [e0] at ha
  have HA := Lib.hid ha
  have HFd : Hid (∀ W, w.grownBy W none → Calls Tryd.prog 37 #[.pointer (some ⟨m, 0, none⟩), .string id] W fun e w' => (∃ ya yc, e = .returned (.tuple #[.slice ya 32 yc, .bool true]) ∧ Bytes w' (.slice ya 32 yc) k ∧ Whole0 (.slice ya 32 yc)) ∧ W.grownBy w' none) := Lib.hid (fun W hW => by
    have := find_any W m kv bv ks id ((hW.block _ (blk_lt hb) (by simp)).trans hb) (hK.grown hW) (by omega)
    rw [hk] at this
    refine this.mono ?_
    rintro e w' ⟨hg, y, rfl, hy, hy0⟩
    have hy2 := hy.grown hg
    obtain ⟨_, ya, _, _, yc, rfl, _⟩ := hy
    rw [hk32] at hy2 hy0 ⊢
    exact ⟨⟨ya, yc, rfl, hy2, hy0⟩, hg⟩)
  obtain ⟨X, hX⟩ : ∃ X, X = strOf msg := ⟨_, rfl⟩
  have HIn : Hid (∀ W, w.grownBy W none → Calls Tryd.prog 41 #[.pointer (some ⟨m, 0, none⟩), .agg #[.string id, .string dom, .string X]] W fun e w' => e = .returned (.bool (decide ((id, dom, X) ∈ bk))) ∧ W.grownBy w' none) := Lib.hid (fun W hW => by
    have := inBook_any W m kv bv bk id dom X ((hW.block _ (blk_lt hb) (by simp)).trans hb) (hLn.grown hW) (by omega)
    exact this)
  have HCV : Hid (∀ W, w.grownBy W none → (convert 22 9 (.slice va n vc)).run Tryd.prog W = .ok (.string X) W) := Lib.hid (fun W hW => by rw [hX]; exact conv_bytes (hB.grown hW) _ 5 _ Tryd.underlying22 Tryd.underlying5 Tryd.underlying9)
  obtain ⟨K, hKk⟩ : ∃ K, K = Hm.hmac k (frameOf (strL dom) [msg]) := ⟨_, rfl⟩
  obtain ⟨D, hD⟩ : ∃ D, D = bytesV K := ⟨_, rfl⟩
  obtain ⟨Y, hY⟩ : ∃ Y, Y = strOf K := ⟨_, rfl⟩
  have hKl : K.length = 32 := by rw [hKk]; exact hmac_len _ _
  have hK8 : ∀ x ∈ K, x < 256 := by rw [hKk]; exact hmac_lt _ _
  have hDs : D.size = 32 := by rw [hD, bytesV_size, hKl]
  have HCS : Hid (∀ W u, Bytes W u K → (convert 22 9 u).run Tryd.prog W = .ok (.string Y) W) := Lib.hid (fun W u h => by rw [hY]; exact conv_bytes h _ 5 _ Tryd.underlying22 Tryd.underlying5 Tryd.underlying9)
  have HT : Hid (∀ W g ya yc, w.grownBy W none → W.heap[g]? = some (.cells #[.slice va n vc] 22 (0, 0)) → Bytes W (.slice ya 32 yc) k → Whole0 (.slice ya 32 yc) → Calls Tryd.prog 22 #[.slice ya 32 yc, .string dom, .slice (some ⟨g, 0, none⟩) 1 1] W fun e w' => e = .returned (.agg D) ∧ W.grownBy w' none) := Lib.hid (fun W g ya yc hW hg hy hy0 => by
    rw [hD, hKk]
    exact refTag_any _ k dom [msg] (some ⟨g, 0, none⟩) g 0 1 1 rfl W hy hy0 (by omega) (fun _ => ⟨rfl, blk_lt hg⟩) (one_part hg (hB.grown hW) hB0) (by omega) (by decide) he)
  have hz32 := zeros32_at w
  have HID : Hid ((Tryd.prog.info? 64).map (·.size) = some D.size) := Lib.hid (by rw [hDs]; kernel_rfl)
  have HIzD : Hid (zeros32.size = D.size) := Lib.hid (by rw [hDs]; rfl)
  have HOD : Hid (D.all (·.oneCell') = true) := Lib.hid (by rw [hD]; exact bytesV_one _)
  have HBy : Hid (∀ W g, W.heap[g]? = some (.cells D 64 (0, 0)) → Bytes W (.slice (some ⟨g, 0, none⟩) 32 32) K) := Lib.hid (fun W g h => by
    rw [hD] at h
    have := row_bytes hK8 h
    rw [hKl] at this; exact this)
  have HSv := Lib.hid hS
  have HKK : Hid (Hm.hmac k (frameOf (strL dom) [msg]) = K) := Lib.hid hKk.symm
  obtain ⟨q2, hq2⟩ : ∃ q2, q2 = decide ((id, dom, X) ∈ bk) := ⟨_, rfl⟩
  rw [← hq2] at HIn
  obtain ⟨Y2s, hY2⟩ : ∃ Y2s, Y2s = strOf sg := ⟨_, rfl⟩
  have HCV2 : Hid (∀ W, w.grownBy W none → (convert 22 9 sv).run Tryd.prog W = .ok (.string Y2s) W) := Lib.hid (fun W hW => by rw [hY2]; exact conv_bytes (hS.grown hW) _ 5 _ Tryd.underlying22 Tryd.underlying5 Tryd.underlying9)
  have hsg8 := hS.lt
  obtain ⟨R, hR⟩ : ∃ R : Nat, R = if Hm.hmac k (frameOf (strL dom) [msg]) = sg ∧ (id, dom, strOf msg) ∈ bk then 0 else 12 := ⟨_, rfl⟩
  rw [← hR]
  have hR1 : Y = Y2s → R = if q2 = true then 0 else 12 := fun e => by
    have e1 : K = sg := by
      rw [hY, hY2] at e
      have := congrArg strL e
      rwa [strL_strOf hK8, strL_strOf hsg8] at this
    rw [hR, ← hKk, hq2, hX]
    simp [e1]
  have hR2 : Y ≠ Y2s → R = 12 := fun e => by
    rw [hR, ← hKk, if_neg]
    rintro ⟨h1, _⟩
    exact e (by rw [hY, hY2, h1])
  have HR1 := Lib.hid hR1
  have HR2 := Lib.hid hR2
  clear ha e0 hk hk32 he hB hB0 hb hK hl hX hKk hD hKl hK8 hDs hd hY hS hLn hlb hq2 hY2 hsg8 hR hR1 hR2
  go_enter Tryd.func28, Tryd.ntmps28
  go_wp2_with (first
    | (go_at_call 40; refine HA.out.mono ?_; rintro e w1 ⟨rfl, hg1⟩; have G1 := Lib.hid hg1; clear hg1)
    | (go_at_call 37; refine (HFd.out w1 G1.out).mono ?_; rintro e w2 ⟨⟨ya, yc, rfl, hy, hy0⟩, hg2⟩; have G2 := Lib.hid (grown_trans G1.out hg2); have Y2 := Lib.hid hy; have Z2 := Lib.hid hy0; clear hg2 hy hy0)
    | (go_at_call 22; obtain ⟨w3, hw3⟩ : ∃ w3, w3 = w2.alloc (.cells #[.slice va n vc] 22) := ⟨_, rfl⟩; rw [← hw3]; have g3 : w2.grownBy w3 none := (by rw [hw3]; exact World.grownBy_alloc _ _ _); refine (HT.out w3 w2.heap.size ya yc (grown_trans G2.out g3) (by rw [hw3]; exact alloc_at _ _) (Y2.out.grown g3) Z2.out).mono ?_; rintro e w4 ⟨rfl, hg4⟩; have G4 := Lib.hid (grown_trans G2.out (grown_trans g3 hg4)); have Z4 := Lib.hid (alloc_at w4 (.cells zeros32 64)); clear hg4 g3 hw3)
    | (refine wpList_store_row (by rfl) 64 (.tmp 14) (.tmp 33) (by rfl) w4.heap.size D (by rfl) (by rfl) _ _ Z4.out HID.out HIzD.out HOD.out ?_; obtain ⟨W5, hW5⟩ : ∃ W5, W5 = (w4.alloc (.cells zeros32 64)).setRow w4.heap.size D := ⟨_, rfl⟩; rw [← hW5]; have G5 : Hid (w.grownBy W5 none) := Lib.hid (by rw [hW5]; exact grown_setRow (grown_alloc G4.out _) G4.out.size _); have B5 : Hid (W5.heap[w4.heap.size]? = some (.cells D 64 (0, 0))) := Lib.hid (by rw [hW5]; exact setRow_heap _ _ _ _ _ _ Z4.out); clear hW5))
  by_cases hYe : Y = Y2s
  · refine rv_region6q q2 _ m w4.heap.size id dom Y X sv (.slice va n vc) W5 _ _ rfl rfl rfl rfl rfl rfl rfl (fun W hW => HCS.out W _ (HBy.out W _ ((hW.block _ (blk_lt B5.out) (by simp)).trans B5.out))) (fun W hW => by rw [hYe]; exact HCV2.out W (grown_trans G5.out hW)) (fun W hW => HCV.out W (grown_trans G5.out hW)) (fun W hW => HIn.out W (grown_trans G5.out hW)) ⟨rfl, rfl, rfl, Nat.le_refl _, fun _ _ _ => rfl⟩ (fun us w8 hg8 => ?_)
    simp only [kfill_cons, kfill_nil, Act.put, List.setIfInBounds_toArray, List.set_cons_succ, List.set_cons_zero]
    have G8 := Lib.hid (grown_trans G5.out hg8)
    have hr := HR1.out hYe
    have HYE := Lib.hid hYe
    clear hg8 hYe
    cases q2
    · rw [if_neg (by simp)] at hr
      subst hr
      simp only [Bool.not_false, Bool.not_true]
      go_wp2
      go_ret
      exact ⟨rfl, G8.out⟩
    · rw [if_pos rfl] at hr
      subst hr
      simp only [Bool.not_false, Bool.not_true]
      go_wp2
      go_ret
      exact ⟨rfl, G8.out⟩
  · have hr := HR2.out hYe
    subst hr
    refine rv_region6n Y Y2s hYe _ m w4.heap.size id dom X sv (.slice va n vc) W5 _ _ rfl rfl rfl rfl rfl rfl rfl (fun W hW => HCS.out W _ (HBy.out W _ ((hW.block _ (blk_lt B5.out) (by simp)).trans B5.out))) (fun W hW => HCV2.out W (grown_trans G5.out hW)) ⟨rfl, rfl, rfl, Nat.le_refl _, fun _ _ _ => rfl⟩ (fun us w8 hg8 => ?_)
    simp only [kfill_cons, kfill_nil, Act.put, List.setIfInBounds_toArray, List.set_cons_succ, List.set_cons_zero]
    have G8 := Lib.hid (grown_trans G5.out hg8)
    have HYE := Lib.hid hYe
    clear hg8 hYe
    go_wp2
    go_ret
    exact ⟨rfl, G8.out⟩
end Go.Proofs.YtgdnndapmcjoeaaDoor
namespace Go.Proofs.YtgdnndapmcjoeaaDoor
open Go.RowKit Go.Maps
set_option linter.unusedVariables false
set_option maxRecDepth 100000 in
set_option maxHeartbeats 4000000 in
theorem rgSign_old (w : World) (m : Nat) (kv bv : Value) (ks : List (ByteArray × List Nat)) (bk : List (ByteArray × ByteArray × ByteArray)) (id dom : ByteArray) (hd : dom.size ≤ 1000) (va : Option Addr) (n vc : Nat) (msg k : List Nat) (hB : Bytes w (.slice va n vc) msg) (hB0 : Whole0 (.slice va n vc)) (hb : w.heap[m]? = some (.cells #[kv, bv] 43 (0, 0))) (hK : KeysV w kv ks) (hl : ks.length ≤ 1000)
    (hR : LinesR w bv bk) (hbl : bk.length ≤ 1000) (hk : fd ks id = some k) (hk32 : k.length = 32) (he : fErr (strL dom) [msg] = 0) (hin : (id, dom, strOf msg) ∈ bk) :
    Calls Tryd.prog 26 #[.pointer (some ⟨m, 0, none⟩), .string id, .string dom, .slice va n vc] w fun e w' => ∃ a c, e = .returned (.tuple #[.slice a 32 c, .int .i64 0]) ∧ Bytes w' (.slice a 32 c) (Hm.hmac k (frameOf (strL dom) [msg])) ∧ Whole0 (.slice a 32 c) ∧ (∀ k, At (.slice a 32 c) k → w.heap.size ≤ k) ∧ w.grownBy w' none := by
  have ha := asked_any w m kv bv ks id dom hd va n vc msg hB hB0 hb hK (by omega)
  have e0 : askE ks id dom msg = 0 := by unfold askE; rw [hk, if_neg (by simp)]; exact he
  rw [e0] at ha
  have HA := Lib.hid ha
  have HFd : Hid (∀ W, w.grownBy W none → Calls Tryd.prog 37 #[.pointer (some ⟨m, 0, none⟩), .string id] W fun e w' => (∃ ya yc, e = .returned (.tuple #[.slice ya 32 yc, .bool true]) ∧ Bytes w' (.slice ya 32 yc) k ∧ Whole0 (.slice ya 32 yc)) ∧ W.grownBy w' none) := Lib.hid (fun W hW => by
    have := find_any W m kv bv ks id ((hW.block _ (blk_lt hb) (by simp)).trans hb) (hK.grown hW) (by omega)
    rw [hk] at this
    refine this.mono ?_
    rintro e w' ⟨hg, y, rfl, hy, hy0⟩
    have hy2 := hy.grown hg
    obtain ⟨_, ya, _, _, yc, rfl, _⟩ := hy
    rw [hk32] at hy2 hy0 ⊢
    exact ⟨⟨ya, yc, rfl, hy2, hy0⟩, hg⟩)
  obtain ⟨X, hX⟩ : ∃ X, X = strOf msg := ⟨_, rfl⟩
  have HIn : Hid (∀ W, w.grownBy W none → Calls Tryd.prog 41 #[.pointer (some ⟨m, 0, none⟩), .agg #[.string id, .string dom, .string X]] W fun e w' => e = .returned (.bool true) ∧ W.grownBy w' none) := Lib.hid (fun W hW => by
    have := inBook_any W m kv bv bk id dom X ((hW.block _ (blk_lt hb) (by simp)).trans hb) (hR.grown hW).lines (by omega)
    rw [hX, decide_eq_true hin] at this
    rw [hX]; exact this)
  have HCV : Hid (∀ W, w.grownBy W none → (convert 22 9 (.slice va n vc)).run Tryd.prog W = .ok (.string X) W) := Lib.hid (fun W hW => by rw [hX]; exact conv_bytes (hB.grown hW) _ 5 _ Tryd.underlying22 Tryd.underlying5 Tryd.underlying9)
  obtain ⟨K, hKk⟩ : ∃ K, K = Hm.hmac k (frameOf (strL dom) [msg]) := ⟨_, rfl⟩
  obtain ⟨D, hD⟩ : ∃ D, D = bytesV K := ⟨_, rfl⟩
  have hKl : K.length = 32 := by rw [hKk]; exact hmac_len _ _
  have hK8 : ∀ x ∈ K, x < 256 := by rw [hKk]; exact hmac_lt _ _
  have hDs : D.size = 32 := by rw [hD, bytesV_size, hKl]
  have HT : Hid (∀ W g ya yc, w.grownBy W none → W.heap[g]? = some (.cells #[.slice va n vc] 22 (0, 0)) → Bytes W (.slice ya 32 yc) k → Whole0 (.slice ya 32 yc) → Calls Tryd.prog 22 #[.slice ya 32 yc, .string dom, .slice (some ⟨g, 0, none⟩) 1 1] W fun e w' => e = .returned (.agg D) ∧ W.grownBy w' none) := Lib.hid (fun W g ya yc hW hg hy hy0 => by
    rw [hD, hKk]
    exact refTag_any _ k dom [msg] (some ⟨g, 0, none⟩) g 0 1 1 rfl W hy hy0 (by omega) (fun _ => ⟨rfl, blk_lt hg⟩) (one_part hg (hB.grown hW) hB0) (by omega) (by decide) he)
  have hz32 := zeros32_at w
  have HID : Hid ((Tryd.prog.info? 64).map (·.size) = some D.size) := Lib.hid (by rw [hDs]; kernel_rfl)
  have HIzD : Hid (zeros32.size = D.size) := Lib.hid (by rw [hDs]; rfl)
  have HOD : Hid (D.all (·.oneCell') = true) := Lib.hid (by rw [hD]; exact bytesV_one _)
  have HBy : Hid (∀ W g, W.heap[g]? = some (.cells D 64 (0, 0)) → Bytes W (.slice (some ⟨g, 0, none⟩) 32 32) K) := Lib.hid (fun W g h => by
    rw [hD] at h
    have := row_bytes hK8 h
    rw [hKl] at this; exact this)
  have HK8 := Lib.hid hK8
  have HKl := Lib.hid hKl
  have HU := Lib.hid uInfo
  have HLI := Lib.hid kLnInfo
  have HBb := Lib.hid hb
  obtain ⟨L, hL⟩ : ∃ L, L = bk.length := ⟨_, rfl⟩
  obtain ⟨XS, hXS⟩ : ∃ XS, XS = bk.flatMap lnC := ⟨_, rfl⟩
  have HR : Hid (∀ W, w.grownBy W none → RowV W bv 3 L XS) := Lib.hid (fun W hW => by rw [hL, hXS]; exact hR.1.grown hW)
  have HR0 := Lib.hid hR.2
  have HR1 : Hid (∀ y ∈ XS, y.oneCell' = true) := Lib.hid (by rw [hXS]; exact lnOnes bk)
  have HLn : Hid (L ≤ 1000) := Lib.hid (by rw [hL]; exact hbl)
  rw [← hKk]
  clear ha e0 hk hk32 he hB hB0 hb hK hl hX hKk hD hKl hK8 hDs hd hR hbl hin hL hXS
  go_enter Tryd.func26, Tryd.ntmps26
  go_wp2_with (first
    | (go_at_call 40; refine HA.out.mono ?_; rintro e w1 ⟨rfl, hg1⟩; have G1 := Lib.hid hg1; clear hg1)
    | (go_at_call 37; refine (HFd.out w1 G1.out).mono ?_; rintro e w2 ⟨⟨ya, yc, rfl, hy, hy0⟩, hg2⟩; have G2 := Lib.hid (grown_trans G1.out hg2); have Y2 := Lib.hid hy; have Z2 := Lib.hid hy0; clear hg2 hy hy0)
    | (go_at_call 22; obtain ⟨w3, hw3⟩ : ∃ w3, w3 = w2.alloc (.cells #[.slice va n vc] 22) := ⟨_, rfl⟩; rw [← hw3]; have g3 : w2.grownBy w3 none := (by rw [hw3]; exact World.grownBy_alloc _ _ _); refine (HT.out w3 w2.heap.size ya yc (grown_trans G2.out g3) (by rw [hw3]; exact alloc_at _ _) (Y2.out.grown g3) Z2.out).mono ?_; rintro e w4 ⟨rfl, hg4⟩; have G4 := Lib.hid (grown_trans G2.out (grown_trans g3 hg4)); have Z4 := Lib.hid (alloc_at w4 (.cells zeros32 64)); clear hg4 g3 hw3)
    | (refine wpList_store_row (by rfl) 64 (.tmp 13) (.tmp 33) (by rfl) w4.heap.size D (by rfl) (by rfl) _ _ Z4.out HID.out HIzD.out HOD.out ?_; obtain ⟨W5, hW5⟩ : ∃ W5, W5 = (w4.alloc (.cells zeros32 64)).setRow w4.heap.size D := ⟨_, rfl⟩; rw [← hW5]; have G5 : Hid (w.grownBy W5 none) := Lib.hid (by rw [hW5]; exact grown_setRow (grown_alloc G4.out _) G4.out.size _); have B5 : Hid (W5.heap[w4.heap.size]? = some (.cells D 64 (0, 0))) := Lib.hid (by rw [hW5]; exact setRow_heap _ _ _ _ _ _ Z4.out); have cv5 := HCV.out W5 G5.out; clear hW5)
    | (go_at_call 41; obtain ⟨w6, hw6⟩ : ∃ w6, w6 = W5.alloc (.cells #[.string id, .string dom, .string X] 98) := ⟨_, rfl⟩; rw [← hw6]; have g6 : W5.grownBy w6 none := (by rw [hw6]; exact World.grownBy_alloc _ _ _); have L6 : Hid (w6.heap[W5.heap.size]? = some (.cells #[.string id, .string dom, .string X] 98 (0, 0))) := Lib.hid (by rw [hw6]; exact alloc_at _ _); have G6 := Lib.hid (grown_trans G5.out g6); have B6 := Lib.hid ((g6.block _ (blk_lt B5.out) (by simp)).trans B5.out); refine (HIn.out w6 G6.out).mono ?_; rintro e w7 ⟨rfl, hg7⟩; have G7 := Lib.hid (grown_trans G6.out hg7); have B7 := Lib.hid ((hg7.block _ (blk_lt B6.out) (by simp)).trans B6.out); have L7 := Lib.hid ((hg7.block _ (blk_lt L6.out) (by simp)).trans L6.out); clear hg7 g6 hw6)
    | (refine wpList_appB (by rfl) (.tmp 55) (.tmp 56) 22 (by rfl) w7.heap.size 5 _ 1 Tryd.underlying22 HU.out rfl (by decide) _ 0 [] (by rfl) (ownsRow_lit (cs := #[]) (alloc_at w7 _) (Nat.le_refl _) (by simp)) _ K (by rfl) (HBy.out _ _ (alloc_keep B7.out)) (Whole0.some _ _ _) (by rw [HKl.out]; decide) (by rw [alloc_size]; omega) ?_; intro v13 w13 ho13 hg13; rw [HKl.out, Nat.zero_add, List.nil_append] at ho13; obtain ⟨a13, g13, c13, rfl, -, -, -, -⟩ := ownsRow_form ho13; have O13 := Lib.hid ho13; have G13 : Hid (w7.grownBy w13 none) := Lib.hid (grown_own (World.grownBy_alloc _ _ _) (ownsRow_lit (cs := #[]) (alloc_at w7 _) (Nat.le_refl _) (by simp)) (Nat.le_refl _) hg13); clear ho13 hg13))
  go_returns
  exact ⟨_, _, rfl, Bytes.own O13.out HK8.out, whole_own O13.out, (fun k hk => by have h1 := (own_at O13.out hk).1; have h2 := G7.out.size; omega), grown_trans G7.out G13.out⟩
section
variable {A : Nat → Addr} {W0 w w' : World} {F : Nat → Prop} {m : Nat} {s : Rg}
theorem RefG.more (h : RefG W0 F m s w) {G : Nat → Prop} (hG : ∀ k, G k → k < w.heap.size) : RefG W0 (fun k => F k ∨ G k) m s w := by
  obtain ⟨kv, bv, ys, k1, k2⟩ := h.body
  exact ⟨h.base, h.big, .inl h.mem, fun k hk => hk.elim (fun hk => h.lt k hk) (fun hk => hG k hk), kv, bv, ys, k1, k2.mono (fun k hk => ⟨.inl hk.1, hk.2⟩) (fun k hk => hk.1.elim (fun hk => h.lt k hk) (fun hk => hG k hk))⟩
/-- What the document's signing leaves: the signature lies in a block of its own, the ring elsewhere. -/
def RSign (W0 : World) (F : Nat → Prop) (m : Nat) (s : Rg) (id dom : ByteArray) (msg : List Nat) (w w' : World) (e : Ending) : Prop :=
  (recE s id dom msg ≠ 0 ∧ e = .returned (.tuple #[.slice none 0 0, .int .i64 (recE s id dom msg : Nat)]) ∧ w.grownBy w' none) ∨
  (recE s id dom msg = 0 ∧ ∃ a c, e = .returned (.tuple #[.slice a 32 c, .int .i64 0]) ∧ Bytes w' (.slice a 32 c) (recS s id dom msg) ∧ Whole0 (.slice a 32 c) ∧ (∀ k, At (.slice a 32 c) k → w.heap.size ≤ k) ∧ Upto (fun k => k = m) w w' ∧ RefG W0 (fun k => F k ∨ w.heap.size ≤ k ∧ k < w'.heap.size) m (s.sign (id, dom, strOf msg)) w')
theorem rgSign (h : RefG W0 F m s w) (hgs : GoodG s) (id dom : ByteArray) (hd : dom.size ≤ 1000) (va : Option Addr) (n vc : Nat) (msg : List Nat) (hB : Bytes w (.slice va n vc) msg) (hB0 : Whole0 (.slice va n vc)) (hl : s.ks.length ≤ 1000) (hbl : s.bk.length ≤ 1000) :
    Calls Tryd.prog 26 #[.pointer (some ⟨m, 0, none⟩), .string id, .string dom, .slice va n vc] w fun e w' => RSign W0 F m s id dom msg w w' e := by
  obtain ⟨kv, bv, ys, h1, h2⟩ := h.body
  obtain ⟨hKR, hLR⟩ := h2.now
  have hK := KeysR.keys ⟨ys, hKR⟩
  by_cases he : recE s id dom msg = 0
  · cases hg : s.get id with
    | none => unfold recE at he; rw [hg, if_pos rfl] at he; exact absurd he (by decide)
    | some k =>
      have hf : fErr (strL dom) [msg] = 0 := by unfold recE at he; rw [hg, if_neg (by simp)] at he; exact he
      obtain ⟨_, hk32, _⟩ := hgs.got hg
      have hrs : recS s id dom msg = Hm.hmac k (frameOf (strL dom) [msg]) := by unfold recS; rw [hg]; rfl
      by_cases hin : (id, dom, strOf msg) ∈ s.bk
      · refine (rgSign_old w m kv bv s.ks s.bk id dom hd va n vc msg k hB hB0 h1 hK hl hLR hbl hg hk32 hf hin).mono ?_
        rintro e w' ⟨a, c, he', hb, hw0, hat, hgr⟩
        refine .inr ⟨he, a, c, he', by rw [hrs]; exact hb, hw0, hat, Upto.of_grown _ hgr, ?_⟩
        have e : s.sign (id, dom, strOf msg) = s := by
          unfold Rg.sign Rg.signB
          rw [if_pos hin]
        rw [e]
        exact (h.still hgr).more (fun k hk => hk.2)
      · refine (rgSign_new w m kv bv s.ks s.bk id dom hd va n vc msg k hB hB0 h1 hK hl hLR hbl hg hk32 hf hin).mono ?_
        rintro e w' ⟨a, c, wa, va', he', hb, hw0, hat, hga, hoa, hgb⟩
        have hsup : Sup (fun k => F k ∧ k ≠ m) wa (fun W => KeysY W kv s.ks ys ∧ LinesR W bv s.bk) := h2.grown hga
        have hmw := h.lt m h.mem
        have hnew := rg_new (s' := s.sign (id, dom, strOf msg)) h hga ((hga.block _ (blk_lt h1) (by simp)).trans h1) 1 va' rfl (kv' := kv) (bv' := va') (ys' := ys) (by simp) (fun W hWk hWs => by
          have hag : Agree (fun k => F k ∧ k ≠ m) wa W := ⟨hWs, fun k hk => hWk k (hsup.lt k hk) hk.2 (.inr hk.1)⟩
          obtain ⟨hKW, _⟩ := hsup.holds W hag
          refine ⟨hKW, ?_, whole_own hoa⟩
          have e : (s.sign (id, dom, strOf msg)).bk = s.bk ++ [(id, dom, strOf msg)] := by
            show Rg.signB s.bk _ = _
            unfold Rg.signB
            rw [if_neg hin]
          rw [e, List.flatMap_append, List.length_append]
          have hoa' : wa.ownsRow w.heap.size 98 3 va' (s.bk.length + [(id, dom, strOf msg)].length) (s.bk.flatMap lnC ++ [(id, dom, strOf msg)].flatMap lnC) := by simpa using hoa
          refine row_keep (row_own hoa') hWs (fun _ k hk => ?_)
          obtain ⟨a1, a2, _⟩ := own_at hoa hk
          exact hWk k a2 (by omega) (.inl a1))
        refine .inr ⟨he, a, c, he', by rw [hrs]; exact hb, hw0, hat, ?_, ?_⟩
        · exact hnew.1.trans (Upto.of_grown (fun _ => False) hgb) (fun _ _ h => h.elim)
        · have h3 := (hnew.2.still hgb).more (G := fun k => w.heap.size ≤ k ∧ k < w'.heap.size) (fun k hk => hk.2)
          obtain ⟨kv3, bv3, ys3, k1, k2⟩ := h3.body
          refine ⟨h3.base, h3.big, .inl h.mem, fun k hk => hk.elim (fun hk => Nat.lt_of_lt_of_le (h.lt k hk) (Nat.le_trans hnew.1.size hgb.size)) (fun hk => hk.2), kv3, bv3, ys3, k1, k2.mono (fun k hk => ⟨?_, hk.2⟩) (fun k hk => hk.1.elim (fun hk => Nat.lt_of_lt_of_le (h.lt k hk) (Nat.le_trans hnew.1.size hgb.size)) (fun hk => hk.2))⟩
          rcases hk.1 with (hk | hk) | hk
          · exact .inl hk
          · exact .inr ⟨hk.1, Nat.lt_of_lt_of_le hk.2 hgb.size⟩
          · exact .inr hk
  · exact (refSign_err w m kv bv s.ks id dom hd va n vc msg hB hB0 h1 hK hl he).mono (fun e w' hp => .inl ⟨he, hp⟩)
theorem rgVerify (h : RefG W0 F m s w) (hgs : GoodG s) (id dom : ByteArray) (hd : dom.size ≤ 1000) (va : Option Addr) (n vc : Nat) (msg : List Nat) (hB : Bytes w (.slice va n vc) msg) (hB0 : Whole0 (.slice va n vc)) (sv : Value) (sg : List Nat) (hS : Bytes w sv sg) (hl : s.ks.length ≤ 1000) (hbl : s.bk.length ≤ 1000) :
    Calls Tryd.prog 28 #[.pointer (some ⟨m, 0, none⟩), .string id, .string dom, .slice va n vc, sv] w fun e w' => e = .returned (.int .i64 (verE s id dom msg sg : Nat)) ∧ w.grownBy w' none := by
  obtain ⟨kv, bv, ys, h1, h2⟩ := h.body
  obtain ⟨hKR, hLR⟩ := h2.now
  have hK := KeysR.keys ⟨ys, hKR⟩
  by_cases he : recE s id dom msg = 0
  · cases hg : s.get id with
    | none => unfold recE at he; rw [hg, if_pos rfl] at he; exact absurd he (by decide)
    | some k =>
      have hf : fErr (strL dom) [msg] = 0 := by unfold recE at he; rw [hg, if_neg (by simp)] at he; exact he
      obtain ⟨_, hk32, _⟩ := hgs.got hg
      have hrs : recS s id dom msg = Hm.hmac k (frameOf (strL dom) [msg]) := by unfold recS; rw [hg]; rfl
      have := refVerify_all w m kv bv sv s.ks s.bk id dom hd va n vc msg k sg hB hB0 h1 hK hl hLR.lines hbl hg hk32 hf hS
      unfold verE
      rw [if_neg (fun h => h he), hrs]
      exact this
  · unfold verE
    rw [if_pos he]
    exact refVerify_err w m kv bv sv s.ks id dom hd va n vc msg hB hB0 h1 hK hl he
end
end Go.Proofs.YtgdnndapmcjoeaaDoor
namespace Go.Proofs.YtgdnndapmcjoeaaDoor
open Go.RowKit Go.Maps
set_option linter.unusedVariables false
theorem bytes_nil (w : World) : Bytes w (.slice none 0 0) [] := ⟨by simp, none, 0, 0, 0, rfl, Nat.le_refl _, fun h => absurd h (by simp), fun j hj => absurd hj (by simp)⟩
end Go.Proofs.YtgdnndapmcjoeaaDoor
