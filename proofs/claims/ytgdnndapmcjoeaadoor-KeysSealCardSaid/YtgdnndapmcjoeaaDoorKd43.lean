import Derived.Test.YtgdnndapmcjoeaaDoorKd40
import Derived.Test.YtgdnndapmcjoeaaDoorKd42
namespace Go.Proofs.YtgdnndapmcjoeaaDoor
open Go.RowKit Go.Maps
set_option linter.unusedVariables false
section
variable {P : Program} {a : Act} {o : Oper} {w : World}
theorem kconv_val {s d : TypeId} {x : Operand} {p v : Value} (ho : o.op = .convert s d x) (hx : a.eval x = p) (h : (convert s d p).run P w = .ok v w) : (execOp a.eval o).run P w = .ok (.value v) w := by
  simp [execOp, ho, hx, h, Result.andThen]
theorem kneqstr_val {t r : TypeId} {x y : Operand} {s : ByteArray} (ho : o.op = .binOp .neq t x y r) (hx : a.eval x = .string s) (hy : a.eval y = .string s) : (execOp a.eval o).run P w = .ok (.value (.bool false)) w := by
  simp only [execOp, ho, hx, hy]
  simp [eqGuard, Sem.run_pure, binOp, Op.stringOp]
theorem knot_val {t : TypeId} {x : Operand} {b : Bool} (ho : o.op = .unOp .not t x) (hx : a.eval x = .bool b) : (execOp a.eval o).run P w = .ok (.value (.bool (!b))) w := by
  simp only [execOp, ho, hx]
  simp [go_sem, Sem.run_pure, Result.andThen]
theorem kpick_false {c x y : Operand} {v : Value} (ho : o.op = .pick c x y) (hc : a.eval c = .bool false) (hy : a.eval y = v) : (execOp a.eval o).run P w = .ok (.value v) w := by
  simp [execOp, ho, hc, hy, Sem.run_pure, asBool]
end
theorem kSlice {o : Oper} {a : Act} {x : Operand} (g : Nat) (w : World) (ho : o.op = .slice 64 x none none none) (hx : a.eval x = .pointer (some ⟨g, 0, none⟩)) : (execOp a.eval o).run Tryd.prog w = .ok (.value (.slice (some ⟨g, 0, none⟩) 32 32)) w := by
  simp only [execOp, ho, hx]
  simp [go_sem, Result.andThen]
theorem kBuildLn {o : Oper} {a : Act} {x y z : Operand} {s1 s2 s3 : ByteArray} (w : World) (ho : o.op = .build 98 #[(0, x), (1, y), (2, z)]) (hx : a.eval x = .string s1) (hy : a.eval y = .string s2) (hz : a.eval z = .string s3) : (execOp a.eval o).run Tryd.prog w = .ok (.value (.agg #[.string s1, .string s2, .string s3])) w := by
  have hb : (Instr.build 98 #[(0, .string s1), (1, .string s2), (2, .string s3)]).run Tryd.prog w = .ok (.agg #[.string s1, .string s2, .string s3]) w := by simp [go_sem]
  have hp : (#[(0, x), (1, y), (2, z)] : Array (Nat × Operand)).map (fun p => (p.1, a.eval p.2)) = #[(0, .string s1), (1, .string s2), (2, .string s3)] := by simp [hx, hy, hz]
  simp only [execOp, ho]
  rw [hp, Sem.run_bind, hb]
  rfl
noncomputable def rvRegion6 : Code := kRegion Tryd.f28.body 6
def r6F (vs : List Value) (j : Nat) (x : Value) (_ : World) : Prop := x = vs.getD j undef
set_option maxRecDepth 100000 in
set_option maxHeartbeats 1000000 in
theorem rv_region6 (a : Act) (m g14 : Nat) (id dom S X : ByteArray) (sv mv : Value) (W w : World) (Q : Exit → Act → World → Prop) (hsz : a.tmps.size = 49)
    (h0 : a.eval (.tmp 0) = .pointer (some ⟨m, 0, none⟩)) (h1 : a.eval (.tmp 1) = .string id) (h2 : a.eval (.tmp 2) = .string dom) (h3 : a.eval (.tmp 3) = mv) (h4 : a.eval (.tmp 4) = sv) (h14 : a.eval (.tmp 14) = .pointer (some ⟨g14, 0, none⟩))
    (hS1 : ∀ w, W.grownBy w none → (convert 22 9 (.slice (some ⟨g14, 0, none⟩) 32 32)).run Tryd.prog w = .ok (.string S) w) (hS2 : ∀ w, W.grownBy w none → (convert 22 9 sv).run Tryd.prog w = .ok (.string S) w) (hX : ∀ w, W.grownBy w none → (convert 22 9 mv).run Tryd.prog w = .ok (.string X) w)
    (hI : ∀ w, W.grownBy w none → Calls Tryd.prog 41 #[.pointer (some ⟨m, 0, none⟩), .agg #[.string id, .string dom, .string X]] w fun e w' => e = .returned (.bool true) ∧ w.grownBy w' none)
    (hw : W.grownBy { w with drawn := w.drawn + 1 } none)
    (hQ : ∀ us w', W.grownBy w' none → Q .normal ((fill a [34, 35, 36, 37, 38, 39, 40, 41, 42, 43, 44, 45, 46, 47] us).put (some 48) (.bool false)) w') : rvRegion6.wp Tryd.prog Q a w := by
  have hcf : ∀ args w, (callFunc 41 args).run Tryd.prog w = .ok (.enter 41 args) w := fun _ _ => by simp [go_sem]
  conv => arg 2; whnf
  refine wp_region_flow 14 [34, 35, 36, 37, 38, 39, 40, 41, 42, 43, 44, 45, 46, 47] (fun w' => W.grownBy w' none) (fun w w' => w.grownBy w' none) (r6F [.slice (some ⟨g14, 0, none⟩) 32 32, .string S, sv, .string S, .bool false, .bool false, .pointer (some ⟨m, 0, none⟩), .string id, .string dom, mv, .string X, .agg #[.string id, .string dom, .string X], .bool true, .bool false]) (by kernel_rfl) (by kernel_rfl) (fun _ _ h k => grown_trans k h) (fun _ _ _ _ _ k => k) hw ?_ ?_
  · refine ⟨?_, ?_, ?_, ?_, ?_, ?_, ?_, ?_, ?_, ?_, ?_, ?_, ?_, ?_, trivial⟩
    · exact flow_step (fun us w hC hd => wants_free rfl) (fun us w hC hd => ⟨_, w, kSlice g14 w rfl ((fill_old (by rfl)).trans h14), grown_refl _ _, rfl⟩)
    · exact flow_step (fun us w hC hd => wants_free rfl) (fun us w hC hd => ⟨_, w, kconv_val rfl ((fill_tmp (by rfl) (by rw [hsz]; decide)).trans (hd 0 (by decide))) (hS1 w hC), grown_refl _ _, rfl⟩)
    · exact flow_step (fun us w hC hd => wants_free rfl) (fun us w hC hd => ⟨_, w, move_val rfl ((fill_old (by rfl)).trans h4), grown_refl _ _, rfl⟩)
    · exact flow_step (fun us w hC hd => wants_free rfl) (fun us w hC hd => ⟨_, w, kconv_val rfl ((fill_tmp (by rfl) (by rw [hsz]; decide)).trans (hd 2 (by decide))) (hS2 w hC), grown_refl _ _, rfl⟩)
    · exact flow_step (fun us w hC hd => wants_free rfl) (fun us w hC hd => ⟨_, w, kneqstr_val rfl ((fill_tmp (by rfl) (by rw [hsz]; decide)).trans (hd 1 (by decide))) ((fill_tmp (by rfl) (by rw [hsz]; decide)).trans (hd 3 (by decide))), grown_refl _ _, rfl⟩)
    · exact flow_step (fun us w hC hd => wants_free rfl) (fun us w hC hd => ⟨_, w, move_val rfl ((fill_tmp (by rfl) (by rw [hsz]; decide)).trans (hd 4 (by decide))), grown_refl _ _, rfl⟩)
    · exact flow_step (fun us w hC hd => wants_on (d := 39) (b := false) rfl rfl (by rfl) (by rw [hsz]; decide) (hd 5 (by decide))) (fun us w hC hd => ⟨_, w, move_val rfl ((fill_old (by rfl)).trans h0), grown_refl _ _, rfl⟩)
    · exact flow_step (fun us w hC hd => wants_on (d := 39) (b := false) rfl rfl (by rfl) (by rw [hsz]; decide) (hd 5 (by decide))) (fun us w hC hd => ⟨_, w, move_val rfl ((fill_old (by rfl)).trans h1), grown_refl _ _, rfl⟩)
    · exact flow_step (fun us w hC hd => wants_on (d := 39) (b := false) rfl rfl (by rfl) (by rw [hsz]; decide) (hd 5 (by decide))) (fun us w hC hd => ⟨_, w, move_val rfl ((fill_old (by rfl)).trans h2), grown_refl _ _, rfl⟩)
    · exact flow_step (fun us w hC hd => wants_on (d := 39) (b := false) rfl rfl (by rfl) (by rw [hsz]; decide) (hd 5 (by decide))) (fun us w hC hd => ⟨_, w, move_val rfl ((fill_old (by rfl)).trans h3), grown_refl _ _, rfl⟩)
    · exact flow_step (fun us w hC hd => wants_on (d := 39) (b := false) rfl rfl (by rfl) (by rw [hsz]; decide) (hd 5 (by decide))) (fun us w hC hd => ⟨_, w, kconv_val rfl ((fill_tmp (by rfl) (by rw [hsz]; decide)).trans (hd 9 (by decide))) (hX w hC), grown_refl _ _, rfl⟩)
    · exact flow_step (fun us w hC hd => wants_on (d := 39) (b := false) rfl rfl (by rfl) (by rw [hsz]; decide) (hd 5 (by decide))) (fun us w hC hd => ⟨_, w, kBuildLn w rfl ((fill_tmp (by rfl) (by rw [hsz]; decide)).trans (hd 7 (by decide))) ((fill_tmp (by rfl) (by rw [hsz]; decide)).trans (hd 8 (by decide))) ((fill_tmp (by rfl) (by rw [hsz]; decide)).trans (hd 10 (by decide))), grown_refl _ _, rfl⟩)
    · refine flow_call 41 (fun us => #[us 40, us 45]) (fun us w hC hd => wants_on (d := 39) (b := false) rfl rfl (by rfl) (by rw [hsz]; decide) (hd 5 (by decide))) (fun us w => by rw [call_enter rfl hcf, List.map_toArray, List.map_cons, List.map_cons, List.map_nil, fill_tmp (by rfl) (by rw [hsz]; decide), fill_tmp (by rfl) (by rw [hsz]; decide)]) (fun us w hC' hd => ?_)
      rw [show us 40 = .pointer (some ⟨m, 0, none⟩) from hd 6 (by decide), show us 45 = .agg #[.string id, .string dom, .string X] from hd 11 (by decide)]
      refine (hI w hC').mono ?_
      rintro e w' ⟨rfl, hg⟩
      exact ⟨_, rfl, hg, rfl⟩
    · exact flow_step (fun us w hC hd => wants_on (d := 39) (b := false) rfl rfl (by rfl) (by rw [hsz]; decide) (hd 5 (by decide))) (fun us w hC hd => ⟨_, w, knot_val rfl ((fill_tmp (by rfl) (by rw [hsz]; decide)).trans (hd 12 (by decide))), grown_refl _ _, rfl⟩)
  · intro us w' hC' hF
    have e5 : us 39 = .bool false := hF 5 (by decide)
    have e13 : us 47 = .bool false := hF 13 (by decide)
    refine wpList_plain rfl fun K hK => ?_
    have e1 : (fill a [34, 35, 36, 37, 38, 39, 40, 41, 42, 43, 44, 45, 46, 47] us).eval (.tmp 39) = .bool false := (fill_tmp (by rfl) (by rw [hsz]; decide)).trans e5
    have e2 : (fill a [34, 35, 36, 37, 38, 39, 40, 41, 42, 43, 44, 45, 46, 47] us).eval (.tmp 47) = .bool false := (fill_tmp (by rfl) (by rw [hsz]; decide)).trans e13
    unfold Oper.wp
    rw [kpick_false (x := .const (.bool true)) rfl e1 e2]
    exact hK _ _ (hQ us w' hC')
set_option maxRecDepth 100000 in
set_option maxHeartbeats 400000 in
theorem refVerify_err (w : World) (m : Nat) (kv bv sv : Value) (ks : List (ByteArray × List Nat)) (id dom : ByteArray) (hd : dom.size ≤ 1000) (va : Option Addr) (n vc : Nat) (msg : List Nat) (hB : Bytes w (.slice va n vc) msg) (hB0 : Whole0 (.slice va n vc)) (hb : w.heap[m]? = some (.cells #[kv, bv] 43 (0, 0))) (hK : KeysV w kv ks) (hl : ks.length ≤ 1000) (he : askE ks id dom msg ≠ 0) :
    Calls Tryd.prog 28 #[.pointer (some ⟨m, 0, none⟩), .string id, .string dom, .slice va n vc, sv] w fun e w' => e = .returned (.int .i64 (askE ks id dom msg : Nat)) ∧ w.grownBy w' none := by
  have HA := asked_any w m kv bv ks id dom hd va n vc msg hB hB0 hb hK (by omega)
  obtain ⟨N, hN⟩ : ∃ N, N = askE ks id dom msg := ⟨_, rfl⟩
  rw [← hN] at HA he ⊢
  have HA := Lib.hid HA
  have hni : ¬ (N : Int) = 0 := by omega
  clear hB hB0 hb hK hl hN he
  go_enter Tryd.func28, Tryd.ntmps28
  go_wp2_with (go_at_call 40; refine HA.out.mono ?_; rintro e w1 ⟨rfl, hg1⟩; have G1 := Lib.hid hg1; clear hg1)
  go_ret
  exact ⟨rfl, G1.out⟩
set_option maxRecDepth 100000 in
set_option maxHeartbeats 2000000 in
theorem refVerify_ok (w : World) (m : Nat) (kv bv sv : Value) (ks : List (ByteArray × List Nat)) (bk : List (ByteArray × ByteArray × ByteArray)) (id dom : ByteArray) (hd : dom.size ≤ 1000) (va : Option Addr) (n vc : Nat) (msg k : List Nat) (hB : Bytes w (.slice va n vc) msg) (hB0 : Whole0 (.slice va n vc)) (hb : w.heap[m]? = some (.cells #[kv, bv] 43 (0, 0))) (hK : KeysV w kv ks) (hl : ks.length ≤ 1000)
    (hLn : LinesV w bv bk) (hlb : bk.length ≤ 1000) (hk : fd ks id = some k) (hk32 : k.length = 32) (he : fErr (strL dom) [msg] = 0) (hmem : (id, dom, strOf msg) ∈ bk) (hS : Bytes w sv (Hm.hmac k (frameOf (strL dom) [msg]))) :
    Calls Tryd.prog 28 #[.pointer (some ⟨m, 0, none⟩), .string id, .string dom, .slice va n vc, sv] w fun e w' => e = .returned (.int .i64 0) ∧ w.grownBy w' none := by
  have ha := asked_any w m kv bv ks id dom hd va n vc msg hB hB0 hb hK (by omega)
  have e0 : askE ks id dom msg = 0 := by unfold askE; rw [hk, if_neg (by simp)]; exact he
  rw [e0] at ha
  have HA := Lib.hid ha
  have HFd : Hid (∀ W, w.grownBy W none → Calls Tryd.prog 37 #[.pointer (some ⟨m, 0, none⟩), .string id] W fun e w' => (∃ ya yc, e = .returned (.tuple #[.slice ya 32 yc, .bool true]) ∧ Bytes w' (.slice ya 32 yc) k ∧ Whole0 (.slice ya 32 yc)) ∧ W.grownBy w' none) := Lib.hid (fun W hW => by
    have := find_any W m kv bv ks id ((hW.block _ (blk_lt hb) (by simp)).trans hb) (hK.grown hW) (by omega)
    rw [hk] at this
    refine this.mono ?_
    rintro e w' ⟨hg, y, rfl, hy, hy0⟩
    have hy2 := hy.grown hg
    obtain ⟨_, ya, _, _, yc, rfl, _⟩ := hy
    rw [hk32] at hy2 hy0 ⊢
    exact ⟨⟨ya, yc, rfl, hy2, hy0⟩, hg⟩)
  obtain ⟨X, hX⟩ : ∃ X, X = strOf msg := ⟨_, rfl⟩
  have HIn : Hid (∀ W, w.grownBy W none → Calls Tryd.prog 41 #[.pointer (some ⟨m, 0, none⟩), .agg #[.string id, .string dom, .string X]] W fun e w' => e = .returned (.bool true) ∧ W.grownBy w' none) := Lib.hid (fun W hW => by
    have := inBook_any W m kv bv bk id dom X ((hW.block _ (blk_lt hb) (by simp)).trans hb) (hLn.grown hW) (by omega)
    rw [hX, decide_eq_true hmem] at this
    rw [hX]; exact this)
  have HCV : Hid (∀ W, w.grownBy W none → (convert 22 9 (.slice va n vc)).run Tryd.prog W = .ok (.string X) W) := Lib.hid (fun W hW => by rw [hX]; exact conv_bytes (hB.grown hW) _ 5 _ Tryd.underlying22 Tryd.underlying5 Tryd.underlying9)
  obtain ⟨K, hKk⟩ : ∃ K, K = Hm.hmac k (frameOf (strL dom) [msg]) := ⟨_, rfl⟩
  obtain ⟨D, hD⟩ : ∃ D, D = bytesV K := ⟨_, rfl⟩
  obtain ⟨Y, hY⟩ : ∃ Y, Y = strOf K := ⟨_, rfl⟩
  rw [← hKk] at hS
  have hKl : K.length = 32 := by rw [hKk]; exact hmac_len _ _
  have hK8 : ∀ x ∈ K, x < 256 := by rw [hKk]; exact hmac_lt _ _
  have hDs : D.size = 32 := by rw [hD, bytesV_size, hKl]
  have HCS : Hid (∀ W u, Bytes W u K → (convert 22 9 u).run Tryd.prog W = .ok (.string Y) W) := Lib.hid (fun W u h => by rw [hY]; exact conv_bytes h _ 5 _ Tryd.underlying22 Tryd.underlying5 Tryd.underlying9)
  have HT : Hid (∀ W g ya yc, w.grownBy W none → W.heap[g]? = some (.cells #[.slice va n vc] 22 (0, 0)) → Bytes W (.slice ya 32 yc) k → Whole0 (.slice ya 32 yc) → Calls Tryd.prog 22 #[.slice ya 32 yc, .string dom, .slice (some ⟨g, 0, none⟩) 1 1] W fun e w' => e = .returned (.agg D) ∧ W.grownBy w' none) := Lib.hid (fun W g ya yc hW hg hy hy0 => by
    rw [hD, hKk]
    exact refTag_any _ k dom [msg] (some ⟨g, 0, none⟩) g 0 1 1 rfl W hy hy0 (by omega) (fun _ => ⟨rfl, blk_lt hg⟩) (one_part hg (hB.grown hW) hB0) (by omega) (by decide) he)
  have hz32 := zeros32_at w
  have HID : Hid ((Tryd.prog.info? 64).map (·.size) = some D.size) := Lib.hid (by rw [hDs]; kernel_rfl)
  have HIzD : Hid (zeros32.size = D.size) := Lib.hid (by rw [hDs]; rfl)
  have HOD : Hid (D.all (·.oneCell') = true) := Lib.hid (by rw [hD]; exact bytesV_one _)
  have HBy : Hid (∀ W g, W.heap[g]? = some (.cells D 64 (0, 0)) → Bytes W (.slice (some ⟨g, 0, none⟩) 32 32) K) := Lib.hid (fun W g h => by
    rw [hD] at h
    have := row_bytes hK8 h
    rw [hKl] at this; exact this)
  have HSv := Lib.hid hS
  clear ha e0 hk hk32 he hB hB0 hb hK hl hX hKk hD hKl hK8 hDs hd hY hS hLn hlb hmem
  go_enter Tryd.func28, Tryd.ntmps28
  go_wp2_with (first
    | (go_at_call 40; refine HA.out.mono ?_; rintro e w1 ⟨rfl, hg1⟩; have G1 := Lib.hid hg1; clear hg1)
    | (go_at_call 37; refine (HFd.out w1 G1.out).mono ?_; rintro e w2 ⟨⟨ya, yc, rfl, hy, hy0⟩, hg2⟩; have G2 := Lib.hid (grown_trans G1.out hg2); have Y2 := Lib.hid hy; have Z2 := Lib.hid hy0; clear hg2 hy hy0)
    | (go_at_call 22; obtain ⟨w3, hw3⟩ : ∃ w3, w3 = w2.alloc (.cells #[.slice va n vc] 22) := ⟨_, rfl⟩; rw [← hw3]; have g3 : w2.grownBy w3 none := (by rw [hw3]; exact World.grownBy_alloc _ _ _); refine (HT.out w3 w2.heap.size ya yc (grown_trans G2.out g3) (by rw [hw3]; exact alloc_at _ _) (Y2.out.grown g3) Z2.out).mono ?_; rintro e w4 ⟨rfl, hg4⟩; have G4 := Lib.hid (grown_trans G2.out (grown_trans g3 hg4)); have Z4 := Lib.hid (alloc_at w4 (.cells zeros32 64)); clear hg4 g3 hw3)
    | (refine wpList_store_row (by rfl) 64 (.tmp 14) (.tmp 33) (by rfl) w4.heap.size D (by rfl) (by rfl) _ _ Z4.out HID.out HIzD.out HOD.out ?_; obtain ⟨W5, hW5⟩ : ∃ W5, W5 = (w4.alloc (.cells zeros32 64)).setRow w4.heap.size D := ⟨_, rfl⟩; rw [← hW5]; have G5 : Hid (w.grownBy W5 none) := Lib.hid (by rw [hW5]; exact grown_setRow (grown_alloc G4.out _) G4.out.size _); have B5 : Hid (W5.heap[w4.heap.size]? = some (.cells D 64 (0, 0))) := Lib.hid (by rw [hW5]; exact setRow_heap _ _ _ _ _ _ Z4.out); clear hW5))
  refine rv_region6 _ m w4.heap.size id dom Y X sv (.slice va n vc) W5 _ _ rfl rfl rfl rfl rfl rfl rfl (fun W hW => HCS.out W _ (HBy.out W _ ((hW.block _ (blk_lt B5.out) (by simp)).trans B5.out))) (fun W hW => HCS.out W _ (HSv.out.grown (grown_trans G5.out hW))) (fun W hW => HCV.out W (grown_trans G5.out hW)) (fun W hW => HIn.out W (grown_trans G5.out hW)) ⟨rfl, rfl, rfl, Nat.le_refl _, fun _ _ _ => rfl⟩ (fun us w8 hg8 => ?_)
  simp only [kfill_cons, kfill_nil, Act.put, List.setIfInBounds_toArray, List.set_cons_succ, List.set_cons_zero]
  have G8 := Lib.hid (grown_trans G5.out hg8)
  clear hg8
  go_wp2
  go_ret
  exact ⟨rfl, G8.out⟩
end Go.Proofs.YtgdnndapmcjoeaaDoor
namespace Go.Proofs.YtgdnndapmcjoeaaDoor
open Go.RowKit Go.Maps
set_option linter.unusedVariables false
theorem bytes_blk {w w' : World} {q n c : Nat} {l : List Nat} (h : Bytes w (.slice (some ⟨q, 0, none⟩) n c) l) (hq : w'.heap[q]? = w.heap[q]?) (hs : w.heap.size ≤ w'.heap.size) : Bytes w' (.slice (some ⟨q, 0, none⟩) n c) l := by
  obtain ⟨h1, a', sb, so, cc, hv, hle, hpos, hcell⟩ := h
  rcases Nat.eq_zero_or_pos l.length with h0 | h0
  · exact ⟨h1, a', sb, so, cc, hv, hle, fun h => by omega, fun j hj => by omega⟩
  · obtain ⟨ha, hsb⟩ := hpos h0
    have e1 : q = sb := by injection hv with hv1; rw [ha] at hv1; injection hv1 with hv1; injection hv1
    subst e1
    exact ⟨h1, a', q, so, cc, hv, hle, fun _ => ⟨ha, by omega⟩, fun j hj => by rw [World.cell?_of_block hq]; exact hcell j hj⟩
/-- The program's ring in block b, the document's in block m. -/
def S0 (w1 : World) (b m : Nat) (kv bv : Value) (s : Rg) (W : World) : Prop :=
  ∃ F : Nat → Prop, PrG w1 F b s W ∧ ¬ F m ∧ w1.heap.size ≤ m ∧ W.heap[m]? = some (.cells #[kv, bv] 43 (0, 0)) ∧ ∀ W', Upto (fun q => F q ∨ q = m) W W' → KeysV W' kv [(idText noughts, noughts)]
def SK (dom v : ByteArray) : List Nat := Hm.hmac noughts (frameOf (strL dom) [strL v])
theorem fd1 : fd [(idText noughts, noughts)] (idText noughts) = some noughts := by simp [fd]
theorem ask1 (dom : ByteArray) (m : List Nat) : askE [(idText noughts, noughts)] (idText noughts) dom m = fErr (strL dom) [m] := by unfold askE; rw [fd1, if_neg (by simp)]
theorem s1_recE (s : Rg) (hs : s.get (idText noughts) = some noughts) (dom : ByteArray) (m : List Nat) : recE s (idText noughts) dom m = fErr (strL dom) [m] := by unfold recE; rw [hs, if_neg (by simp)]
theorem s1_recS (s : Rg) (hs : s.get (idText noughts) = some noughts) (dom v : ByteArray) : recS s (idText noughts) dom (strL v) = SK dom v := by unfold recS SK; rw [hs]; rfl
theorem verE_ne {s : Rg} {id dom : ByteArray} {m sg : List Nat} (h : ¬ (id, dom, strOf m) ∈ s.bk) : verE s id dom m sg ≠ 0 := by
  unfold verE
  by_cases h1 : recE s id dom m = 0
  · rw [if_neg (fun h => h h1), if_neg (fun h2 => h h2.2)]; decide
  · rw [if_pos h1]; exact h1
section
variable {A : Nat → Addr} {w1 W w' : World} {b m : Nat} {kv bv : Value} {s : Rg} {dom v : ByteArray}
theorem S0.base (h : S0 w1 b m kv bv s W) : w1.grownBy W none := by obtain ⟨F, hP, _⟩ := h; exact hP.base
theorem S0.ring (h : S0 w1 b m kv bv s W) : W.heap[m]? = some (.cells #[kv, bv] 43 (0, 0)) ∧ KeysV W kv [(idText noughts, noughts)] := by
  obtain ⟨F, hP, hn, hl, hm, hK⟩ := h
  exact ⟨hm, hK W (Upto.refl _ _)⟩
theorem S0.still (h : S0 w1 b m kv bv s W) (hg : W.grownBy w' none) : S0 w1 b m kv bv s w' := by
  obtain ⟨F, hP, hn, hl, hm, hK⟩ := h
  exact ⟨F, hP.still hg, hn, hl, (hg.block _ (blk_lt hm) (by simp)).trans hm, fun W' hU => hK W' ((Upto.of_grown _ hg).trans hU (fun _ _ h => h))⟩
theorem S0.mine (h : S0 w1 b m kv bv s W) {bv' : Value} (hg : W.grownBy w' (some m)) (hb : w'.heap[m]? = some (.cells #[kv, bv'] 43 (0, 0))) : S0 w1 b m kv bv' s w' := by
  obtain ⟨F, hP, hn, hl, hm, hK⟩ := h
  have hu : Upto (fun k => k = m) W w' := Upto.of_row hg (fun k e => .inl (Option.some.inj e).symm)
  refine ⟨F, hP.other (G := fun k => k = m) (G' := fun k => k = m) (fun k e => by rw [e]; exact hl) ⟨hu, fun _ _ h => h⟩ (fun k e hf => hn (by rw [← e]; exact hf)), hn, hl, hb, fun W' hU => hK W' ((hu.mono (fun _ _ e => .inr e)).trans hU (fun _ _ h => h))⟩
/-- The first key. -/
theorem sAdd {F : Nat → Prop} {w3 : World} (hP : PrG w1 F b s w3) :
    Calls Tryd.prog 23 #[.pointer (some ⟨w3.heap.size, 0, none⟩), .slice (some ⟨w3.heap.size + 1, 0, none⟩) 32 32] ((w3.alloc (.cells #[.slice none 0 0, .slice none 0 0] 43)).alloc (.cells (bytesV noughts) 5)) fun e w' => e = .returned (.string (idText noughts)) ∧ ∃ kv, S0 w1 b w3.heap.size kv (.slice none 0 0) s w' := by
  obtain ⟨W, hW⟩ : ∃ W, W = (w3.alloc (.cells #[.slice none 0 0, .slice none 0 0] 43)).alloc (.cells (bytesV noughts) 5) := ⟨_, rfl⟩
  have hm : W.heap[w3.heap.size]? = some (.cells #[.slice none 0 0, .slice none 0 0] 43 (0, 0)) := by rw [hW]; exact alloc2_old _ _ _
  have hk : W.heap[w3.heap.size + 1]? = some (.cells (bytesV noughts) 5 (0, 0)) := by rw [hW]; exact alloc2_new _ _ _
  have hg3 : w3.grownBy W none := by rw [hW]; exact grown_alloc (World.grownBy_alloc _ _ _) _
  rw [← hW]
  refine (refAdd_empty W w3.heap.size (some ⟨w3.heap.size + 1, 0, none⟩) 32 noughts (blk_bytes noughts_lt hk) (Whole0.some _ _ _) rfl hm).mono ?_
  rintro e w' ⟨rfl, hg, kv, hb, hK⟩
  have hn : ¬ F w3.heap.size := hP.apart
  have hu : Upto (fun k => k = w3.heap.size) W w' := Upto.of_row hg (fun k e => .inl (Option.some.inj e).symm)
  have hl := hP.base.size
  refine ⟨rfl, kv, F, (hP.still hg3).other (G := fun k => k = w3.heap.size) (G' := fun k => k = w3.heap.size) (fun k e => by rw [e]; exact hl) ⟨hu, fun _ _ h => h⟩ (fun k e hf => hn (by rw [← e]; exact hf)), hn, hl, hb, fun W' hU => hK _ W' (fun q hq => ?_) hU⟩
  have hs3 := hg3.size
  rcases hq with hq | rfl
  · have := (hP.own q hq).2; omega
  · exact blk_lt hm
theorem sSeal_ok (h : S0 w1 b m kv bv s1 W) (hE : AllErrs w1 A) (hL : Laid w1) (hv : v ≠ mt) (hvl : v.size ≤ 1000) (hd : dom.size ≤ 1000) (hf : fErr (strL dom) [strL v] = 0) :
    Calls Tryd.prog 24 #[.pointer (some ⟨b, 0, none⟩), .string (idText noughts), .agg #[.string dom, .string v], .func (.func 25) #[] #[]] W fun e w' => ∃ g, e = .returned (.tuple #[.slice (some ⟨g, 0, none⟩) 32 32, .nilIface]) ∧ S0 w1 b m kv bv (s1.sign (idText noughts, dom, v)) w' ∧ w'.heap[g]? = some (.cells (bytesV (SK dom v)) 64 (0, 0)) := by
  refine (seal_some b (idText noughts) dom v hv W .nilIface (fun W x w' => ∃ g, x = .slice (some ⟨g, 0, none⟩) 32 32 ∧ S0 w1 b m kv bv (s1.sign (idText noughts, dom, v)) w' ∧ w'.heap[g]? = some (.cells (bytesV (SK dom v)) 64 (0, 0))) (fun W2 q c hg hq hB hB0 => ?_)).mono (by
    rintro e w' ⟨_, x, _, rfl, g, rfl, h1, h2⟩
    exact ⟨g, rfl, h1, h2⟩)
  obtain ⟨F, hP, hn, hl, hm, hK⟩ := h
  have hP2 := hP.still hg
  have hqF : ¬ F q := fun hf => by have := (hP.own q hf).2; omega
  have hqs : q < W2.heap.size ∨ v.size = 0 := by
    obtain ⟨_, a', sb, so, cc, hv', _, hpos, _⟩ := hB
    rcases Nat.eq_zero_or_pos (strL v).length with h0 | h0
    · right; rw [strL_len] at h0; exact h0
    · left
      obtain ⟨ha, hsb⟩ := hpos h0
      injection hv' with hv1; rw [ha] at hv1; injection hv1 with hv1; injection hv1 with hv1; rw [hv1]; exact hsb
  have hqs : q < W2.heap.size := by
    rcases hqs with h | h
    · exact h
    · exact absurd (kStr (by
        have : (strL v).length = 0 := by rw [strL_len]; exact h
        have h2 : (strL mt).length = 0 := by rw [strL_len]; rfl
        rw [List.length_eq_zero_iff.1 this, List.length_eq_zero_iff.1 h2])) hv
  have hml : (strL v).length = v.size := strL_len v
  have := pgSign hP2 hE hL (idText noughts) dom (by rw [id_size]; decide) hd (some ⟨q, 0, none⟩) c (strL v) (by omega) (fun W' hU => by
    rw [hml]; exact bytes_blk hB (hU.block q hqs hqF) hU.size) (by rw [hml]; exact hB0)
  rw [hml] at this
  refine this.mono ?_
  rintro e w' (⟨h1, _⟩ | ⟨_, g, F', rfl, _, hgd, _, ht, hP'⟩)
  · rw [s1_recE s1 s1_get] at h1; exact absurd hf h1
  · rw [strOf_strL] at hP'
    rw [s1_recS s1 s1_get] at hgd
    have hm2 := (hg.block _ (blk_lt hm) (by simp)).trans hm
    refine ⟨_, rfl, g, rfl, ⟨F', hP', fun hf' => hn (ht.mine m (blk_lt hm2) hf'), hl, (ht.upto.block m (blk_lt hm2) hn).trans hm2, fun W' hU => hK W' ?_⟩, hgd⟩
    refine ((Upto.of_grown (fun q => F q ∨ q = m) hg).trans (ht.upto.mono (fun _ _ h => .inl h)) (fun _ _ h => h)).trans hU (fun k hk ho => ?_)
    rcases ho with ho | ho
    · exact .inl (ht.mine k (Nat.lt_of_lt_of_le hk hg.size) ho)
    · exact .inr ho
theorem sSeal_err (h : S0 w1 b m kv bv s1 W) (hE : AllErrs w1 A) (hL : Laid w1) (hv : v ≠ mt) (hvl : v.size ≤ 1000) (hd : dom.size ≤ 1000) (hf : fErr (strL dom) [strL v] ≠ 0) :
    Calls Tryd.prog 24 #[.pointer (some ⟨b, 0, none⟩), .string (idText noughts), .agg #[.string dom, .string v], .func (.func 25) #[] #[]] W fun e w' => e = .returned (.tuple #[.slice none 0 0, errV A (fErr (strL dom) [strL v])]) ∧ W.grownBy w' none := by
  refine (seal_some b (idText noughts) dom v hv W (errV A (fErr (strL dom) [strL v])) (fun W x w' => x = .slice none 0 0 ∧ W.grownBy w' none) (fun W2 q c hg hq hB hB0 => ?_)).mono (by
    rintro e w' ⟨W2, x, hg, rfl, rfl, h1⟩
    exact ⟨rfl, grown_trans hg h1⟩)
  obtain ⟨F, hP, hn, hl, hm, hK⟩ := h
  have hP2 := hP.still hg
  have hqF : ¬ F q := fun hf => by have := (hP.own q hf).2; omega
  have hqs : q < W2.heap.size := by
    obtain ⟨_, a', sb, so, cc, hv', _, hpos, _⟩ := hB
    rcases Nat.eq_zero_or_pos (strL v).length with h0 | h0
    · exact absurd (kStr (by
        have h2 : (strL mt).length = 0 := by rw [strL_len]; rfl
        rw [List.length_eq_zero_iff.1 h0, List.length_eq_zero_iff.1 h2])) hv
    · obtain ⟨ha, hsb⟩ := hpos h0
      injection hv' with hv1; rw [ha] at hv1; injection hv1 with hv1; injection hv1 with hv1; rw [hv1]; exact hsb
  have hml : (strL v).length = v.size := strL_len v
  have := pgSign hP2 hE hL (idText noughts) dom (by rw [id_size]; decide) hd (some ⟨q, 0, none⟩) c (strL v) (by omega) (fun W' hU => by
    rw [hml]; exact bytes_blk hB (hU.block q hqs hqF) hU.size) (by rw [hml]; exact hB0)
  rw [hml] at this
  refine this.mono ?_
  rintro e w' (⟨_, h2, h3⟩ | ⟨h1, _⟩)
  · rw [s1_recE s1 s1_get] at h2; exact ⟨_, h2, rfl, h3⟩
  · rw [s1_recE s1 s1_get] at h1; exact absurd h1 hf
theorem sOpen (h : S0 w1 b m kv bv s W) (hE : AllErrs w1 A) (hL : Laid w1) (hv : v ≠ mt) (hvl : v.size ≤ 1000) (hd : dom.size ≤ 1000) (sa : Option Addr) (sc : Nat) (sg : List Nat) (hsl : sg.length ≤ 1000) (hS : Bytes W (.slice sa sg.length sc) sg) :
    Calls Tryd.prog 27 #[.pointer (some ⟨b, 0, none⟩), .string (idText noughts), .agg #[.string dom, .string v], .slice sa sg.length sc, .func (.func 25) #[] #[]] W fun e w' => e = .returned (errOf A (verE s (idText noughts) dom (strL v) sg)) ∧ W.grownBy w' none := by
  refine (open_some b (idText noughts) dom v hv (.slice sa sg.length sc) W (errOf A (verE s (idText noughts) dom (strL v) sg)) (fun W w' => W.grownBy w' none) (fun W2 q c hg hq hB hB0 => ?_)).mono (by
    rintro e w' ⟨W2, hg, rfl, h1⟩
    exact ⟨rfl, grown_trans hg h1⟩)
  obtain ⟨F, hP, hn, hl, hm, hK⟩ := h
  have hml : (strL v).length = v.size := strL_len v
  have := pgVerify (hP.still hg) hE hL (idText noughts) dom (by rw [id_size]; decide) hd (some ⟨q, 0, none⟩) c (strL v) (by omega) (by rw [hml]; exact hB) (by rw [hml]; exact hB0) sa sc sg (by omega) (hS.grown hg)
  rw [hml] at this
  exact this
end
end Go.Proofs.YtgdnndapmcjoeaaDoor
