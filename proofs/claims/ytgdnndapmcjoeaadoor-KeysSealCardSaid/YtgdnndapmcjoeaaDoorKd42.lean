import Derived.Test.YtgdnndapmcjoeaaDoorKd32
import Derived.Test.YtgdnndapmcjoeaaDoorKd41
namespace Go.Proofs.YtgdnndapmcjoeaaDoor
open Go.RowKit Go.Maps
set_option linter.unusedVariables false
/-- A line is put behind a row of no room. -/
theorem kAppLn (w : World) (g g2 : Nat) (s1 s2 s3 : ByteArray) (h : w.heap[g2]? = some (.cells #[.string s1, .string s2, .string s3] 98 (0, 0))) :
    ∃ C pad, ∀ (o : Oper) (a : Act) (x y : Operand) (_ : o.op = .call { callee := .builtin .append, args := #[x, y], argTypes := #[41, 41] }) (_ : a.eval x = .slice (some ⟨g, 0, none⟩) 0 0) (_ : a.eval y = .slice (some ⟨g2, 0, none⟩) 1 1),
      (execOp a.eval o).run Tryd.prog w = .ok (.value (.slice (some ⟨w.heap.size, 0, none⟩) 1 C)) ((w.alloc (.cells (#[.string s1, .string s2, .string s3] ++ pad) 98)).drew) := by
  have c0 := cell_blk h 0 rfl
  have c1 := cell_blk h 1 rfl
  have c2 := cell_blk h 2 rfl
  have hd : ¬ 281474976710656 < Builtin.nextslicecap 1 0 * Tryd.t98.bytes := by decide
  refine ⟨((Question.appendCap 1 0 98).cut (w.tape w.drawn (Question.appendCap 1 0 98))), Builtin.zeroCells #[.string ⟨#[]⟩, .string ⟨#[]⟩, .string ⟨#[]⟩] (((Question.appendCap 1 0 98).cut (w.tape w.drawn (Question.appendCap 1 0 98))) - 1), fun o a x y ho hx hy => ?_⟩
  simp only [execOp, ho, resolve, List.map_toArray, List.map_cons, List.map_nil, hx, hy]
  simp [go_sem, invoke, c0, c1, c2, hd, Result.andThen, Sem.run_bind, Sem.run_pure]
theorem kAppNil {o : Oper} {a : Act} {x y : Operand} (w : World) (g : Nat) (ho : o.op = .call { callee := .builtin .append, args := #[x, y], argTypes := #[41, 41] }) (hx : a.eval x = .slice (some ⟨g, 0, none⟩) 0 0) (hy : a.eval y = .slice none 0 0) : (execOp a.eval o).run Tryd.prog w = .ok (.value (.slice (some ⟨g, 0, none⟩) 0 0)) w := by
  simp only [execOp, ho, resolve, List.map_toArray, List.map_cons, List.map_nil, hx, hy]
  simp [go_sem, invoke, Result.andThen, Sem.run_bind, Sem.run_pure]
theorem kBuild0 {o : Oper} {a : Act} (w : World) (ho : o.op = .buildSlice 41 0 #[]) : (execOp a.eval o).run Tryd.prog w = .ok (.value (.slice (some ⟨w.heap.size, 0, none⟩) 0 0)) (w.alloc (.cells #[] 98)) := by
  simp only [execOp, ho]
  simp [go_sem, Result.andThen]
theorem kBuildL {o : Oper} {a : Act} {x : Operand} (w : World) (s1 s2 s3 : ByteArray) (ho : o.op = .buildSlice 41 1 #[(0, x)]) (hx : a.eval x = .agg #[.string s1, .string s2, .string s3]) : (execOp a.eval o).run Tryd.prog w = .ok (.value (.slice (some ⟨w.heap.size, 0, none⟩) 1 1)) (w.alloc (.cells #[.string s1, .string s2, .string s3] 98)) := by
  have hb : (Instr.buildSlice 41 1 #[(0, .agg #[.string s1, .string s2, .string s3])]).run Tryd.prog w = .ok (.slice (some ⟨w.heap.size, 0, none⟩) 1 1) (w.alloc (.cells #[.string s1, .string s2, .string s3] 98)) := by simp [go_sem]
  have hp : (#[(0, x)] : Array (Nat × Operand)).map (fun p => (p.1, a.eval p.2)) = #[(0, .agg #[.string s1, .string s2, .string s3])] := by simp [hx]
  simp only [execOp, ho]
  rw [hp, Sem.run_bind, hb]
  rfl
theorem kNilCk {o : Oper} {a : Act} {x : Operand} (w : World) (p : Addr) (ho : o.op = .nilCheck x) (hx : a.eval x = .pointer (some p)) : (execOp a.eval o).run Tryd.prog w = .ok (.value (.pointer (some p))) w := by
  simp only [execOp, ho, hx]
  simp [go_sem, Result.andThen]
theorem kFieldR (m : Nat) (w : World) : (Instr.fieldAt 43 (.pointer (some ⟨m, 0, none⟩)) 1).run Tryd.prog w = .ok (.pointer (some ⟨m, 1, none⟩)) w := by simp [go_sem]
theorem kLoadLs {g o : Nat} {w : World} (h : w.cell? ⟨g, o, none⟩ = some (.slice none 0 0)) : (Instr.loadAt 41 (.pointer (some ⟨g, o, none⟩))).run Tryd.prog w = .ok (.slice none 0 0) w := by simp [go_sem, h]
theorem kLoadLn {g : Nat} {w : World} {s1 s2 s3 : ByteArray} (h : w.heap[g]? = some (.cells #[.string s1, .string s2, .string s3] 98 (0, 0))) : (Instr.loadAt 98 (.pointer (some ⟨g, 0, none⟩))).run Tryd.prog w = .ok (.agg #[.string s1, .string s2, .string s3]) w := by
  have c0 := cell_blk h 0 rfl
  have c1 := cell_blk h 1 rfl
  have c2 := cell_blk h 2 rfl
  simp [go_sem, c0, c1, c2]
noncomputable def rsRegion8 : Code := kRegion Tryd.f26.body 8
def r8F (W : World) (m b14 : Nat) (s1 s2 s3 : ByteArray) (j : Nat) (x : Value) (w : World) : Prop :=
  if j = 1 ∨ j = 6 then ∃ g, x = .slice (some ⟨g, 0, none⟩) 0 0
  else if j = 8 then ∃ g, x = .slice (some ⟨g, 0, none⟩) 1 1 ∧ W.heap.size ≤ g ∧ w.heap[g]? = some (.cells #[.string s1, .string s2, .string s3] 98 (0, 0))
  else if j = 9 then ∃ g C pad, x = .slice (some ⟨g, 0, none⟩) 1 C ∧ W.heap.size ≤ g ∧ w.heap[g]? = some (.cells (#[.string s1, .string s2, .string s3] ++ pad) 98 (0, 0))
  else x = [Value.pointer (some ⟨m, 0, none⟩), undef, .pointer (some ⟨m, 0, none⟩), .pointer (some ⟨m, 0, none⟩), .pointer (some ⟨m, 1, none⟩), .slice none 0 0, undef, .agg #[.string s1, .string s2, .string s3], undef, undef, .pointer (some ⟨m, 0, none⟩), .pointer (some ⟨m, 1, none⟩)].getD j undef
theorem r8F_stays {W : World} {m b14 : Nat} {s1 s2 s3 : ByteArray} {j : Nat} {x : Value} {w w' : World} (hg : w.grownBy w' none) (h : r8F W m b14 s1 s2 s3 j x w) : r8F W m b14 s1 s2 s3 j x w' := by
  unfold r8F at h ⊢
  by_cases h1 : j = 1 ∨ j = 6
  · rw [if_pos h1] at h ⊢; exact h
  · rw [if_neg h1] at h ⊢
    by_cases h8 : j = 8
    · rw [if_pos h8] at h ⊢
      obtain ⟨g, e1, e2, e3⟩ := h
      exact ⟨g, e1, e2, (hg.block _ (blk_lt e3) (by simp)).trans e3⟩
    · rw [if_neg h8] at h ⊢
      by_cases h9 : j = 9
      · rw [if_pos h9] at h ⊢
        obtain ⟨g, C, pad, e1, e2, e3⟩ := h
        exact ⟨g, C, pad, e1, e2, (hg.block _ (blk_lt e3) (by simp)).trans e3⟩
      · rw [if_neg h9] at h ⊢; exact h
set_option maxRecDepth 100000 in
set_option maxHeartbeats 1000000 in
theorem rs_region8 (a : Act) (m b14 : Nat) (s1 s2 s3 : ByteArray) (kv : Value) (W w : World) (Q : Exit → Act → World → Prop) (hsz : a.tmps.size = 58)
    (h0 : a.eval (.tmp 0) = .pointer (some ⟨m, 0, none⟩)) (h14 : a.eval (.tmp 14) = .pointer (some ⟨b14, 0, none⟩))
    (hm : W.heap[m]? = some (.cells #[kv, .slice none 0 0] 43 (0, 0))) (hl : W.heap[b14]? = some (.cells #[.string s1, .string s2, .string s3] 98 (0, 0)))
    (hw : W.grownBy { w with drawn := w.drawn + 1 } none)
    (hQ : ∀ us w' g C pad, us 52 = .slice (some ⟨g, 0, none⟩) 1 C → W.grownBy w' none → W.heap.size ≤ g → w'.heap[g]? = some (.cells (#[.string s1, .string s2, .string s3] ++ pad) 98 (0, 0)) →
      Q .normal (fill a [43, 44, 45, 46, 47, 48, 49, 50, 51, 52, 53, 54] us) (w'.setCell ⟨m, 1, none⟩ (.slice (some ⟨g, 0, none⟩) 1 C))) : rsRegion8.wp Tryd.prog Q a w := by
  have cm : ∀ w, W.grownBy w none → w.heap[m]? = some (.cells #[kv, .slice none 0 0] 43 (0, 0)) := fun w hg => (hg.block _ (blk_lt hm) (by simp)).trans hm
  have cl : ∀ w, W.grownBy w none → w.heap[b14]? = some (.cells #[.string s1, .string s2, .string s3] 98 (0, 0)) := fun w hg => (hg.block _ (blk_lt hl) (by simp)).trans hl
  conv => arg 2; whnf
  refine wp_region_flow 12 [43, 44, 45, 46, 47, 48, 49, 50, 51, 52, 53, 54] (fun w' => W.grownBy w' none) (fun w w' => w.grownBy w' none) (r8F W m b14 s1 s2 s3) (by kernel_rfl) (by kernel_rfl) (fun _ _ h k => grown_trans k h) (fun _ _ _ _ h k => r8F_stays h k) hw ?_ ?_
  · refine ⟨?_, ?_, ?_, ?_, ?_, ?_, ?_, ?_, ?_, ?_, ?_, ?_, trivial⟩
    · exact flow_step (fun us w hC hd => wants_free rfl) (fun us w hC hd => ⟨_, w, move_val rfl ((fill_old (by rfl)).trans h0), grown_refl _ _, rfl⟩)
    · exact flow_step (fun us w hC hd => wants_free rfl) (fun us w hC hd => ⟨_, _, kBuild0 w rfl, World.grownBy_alloc _ _ _, _, rfl⟩)
    · exact flow_step (fun us w hC hd => wants_free rfl) (fun us w hC hd => ⟨_, w, move_val rfl ((fill_old (by rfl)).trans h0), grown_refl _ _, rfl⟩)
    · exact flow_step (fun us w hC hd => wants_free rfl) (fun us w hC hd => ⟨_, w, kNilCk w _ rfl ((fill_tmp (by rfl) (by rw [hsz]; decide)).trans (hd 2 (by decide))), grown_refl _ _, rfl⟩)
    · exact flow_step (fun us w hC hd => wants_free rfl) (fun us w hC hd => ⟨_, w, kfield_val rfl ((fill_tmp (by rfl) (by rw [hsz]; decide)).trans (hd 3 (by decide))) (kFieldR m w), grown_refl _ _, rfl⟩)
    · exact flow_step (fun us w hC hd => wants_free rfl) (fun us w hC hd => ⟨_, w, kload_val rfl ((fill_tmp (by rfl) (by rw [hsz]; decide)).trans (hd 4 (by decide))) (kLoadLs (cell_blk (cm w hC) 1 rfl)), grown_refl _ _, rfl⟩)
    · refine flow_step (fun us w hC hd => wants_free rfl) (fun us w hC hd => ?_)
      obtain ⟨g, e1⟩ : ∃ g, us 44 = .slice (some ⟨g, 0, none⟩) 0 0 := hd 1 (by decide)
      exact ⟨_, w, kAppNil w g rfl ((fill_tmp (by rfl) (by rw [hsz]; decide)).trans e1) ((fill_tmp (by rfl) (by rw [hsz]; decide)).trans (hd 5 (by decide))), grown_refl _ _, g, rfl⟩
    · exact flow_step (fun us w hC hd => wants_free rfl) (fun us w hC hd => ⟨_, w, kload_val rfl ((fill_old (by rfl)).trans h14) (kLoadLn (cl w hC)), grown_refl _ _, rfl⟩)
    · exact flow_step (fun us w hC hd => wants_free rfl) (fun us w hC hd => ⟨_, _, kBuildL w s1 s2 s3 rfl ((fill_tmp (by rfl) (by rw [hsz]; decide)).trans (hd 7 (by decide))), World.grownBy_alloc _ _ _, w.heap.size, rfl, hC.size, alloc_at _ _⟩)
    · refine flow_step (fun us w hC hd => wants_free rfl) (fun us w hC hd => ?_)
      obtain ⟨g, e1⟩ : ∃ g, us 49 = .slice (some ⟨g, 0, none⟩) 0 0 := hd 6 (by decide)
      obtain ⟨g2, e2, _, e3⟩ : ∃ g, us 51 = .slice (some ⟨g, 0, none⟩) 1 1 ∧ W.heap.size ≤ g ∧ w.heap[g]? = some (.cells #[.string s1, .string s2, .string s3] 98 (0, 0)) := hd 8 (by decide)
      obtain ⟨C, pad, hr⟩ := kAppLn w g g2 s1 s2 s3 e3
      exact ⟨_, _, hr _ _ (.tmp 49) (.tmp 51) rfl ((fill_tmp (by rfl) (by rw [hsz]; decide)).trans e1) ((fill_tmp (by rfl) (by rw [hsz]; decide)).trans e2), grown_drewN (World.grownBy_alloc _ _ _) 1, w.heap.size, C, pad, rfl, hC.size, alloc_at _ _⟩
    · exact flow_step (fun us w hC hd => wants_free rfl) (fun us w hC hd => ⟨_, w, kNilCk w _ rfl ((fill_tmp (by rfl) (by rw [hsz]; decide)).trans (hd 0 (by decide))), grown_refl _ _, rfl⟩)
    · exact flow_step (fun us w hC hd => wants_free rfl) (fun us w hC hd => ⟨_, w, kfield_val rfl ((fill_tmp (by rfl) (by rw [hsz]; decide)).trans (hd 10 (by decide))) (kFieldR m w), grown_refl _ _, rfl⟩)
  · intro us w' hC' hF
    have h9 := hF 9 (by decide)
    unfold r8F at h9
    rw [if_neg (by decide), if_neg (by decide), if_pos rfl] at h9
    obtain ⟨g, C, pad, e9, p1, p2⟩ := h9
    have e9 : us 52 = .slice (some ⟨g, 0, none⟩) 1 C := e9
    have e11 : us 54 = .pointer (some ⟨m, 1, none⟩) := hF 11 (by decide)
    refine wpList_store_c (by rfl) 41 (.tmp 54) (.tmp 52) (by rfl) m 1 _ ((fill_tmp (by rfl) (by rw [hsz]; decide)).trans e11) ((fill_tmp (by rfl) (by rw [hsz]; decide)).trans e9) (there_blk (cm w' hC') 1 1 (by show 1 + 1 ≤ 2; decide)) (by kernel_rfl) (by rfl) ?_
    exact hQ us w' g C pad e9 hC' p1 p2
end Go.Proofs.YtgdnndapmcjoeaaDoor
namespace Go.Proofs.YtgdnndapmcjoeaaDoor
open Go.RowKit Go.Maps
set_option linter.unusedVariables false
set_option maxRecDepth 100000 in
set_option maxHeartbeats 400000 in
theorem refSign_err (w : World) (m : Nat) (kv bv : Value) (ks : List (ByteArray × List Nat)) (id dom : ByteArray) (hd : dom.size ≤ 1000) (va : Option Addr) (n vc : Nat) (msg : List Nat) (hB : Bytes w (.slice va n vc) msg) (hB0 : Whole0 (.slice va n vc)) (hb : w.heap[m]? = some (.cells #[kv, bv] 43 (0, 0))) (hK : KeysV w kv ks) (hl : ks.length ≤ 1000) (he : askE ks id dom msg ≠ 0) :
    Calls Tryd.prog 26 #[.pointer (some ⟨m, 0, none⟩), .string id, .string dom, .slice va n vc] w fun e w' => e = .returned (.tuple #[.slice none 0 0, .int .i64 (askE ks id dom msg : Nat)]) ∧ w.grownBy w' none := by
  have HA := asked_any w m kv bv ks id dom hd va n vc msg hB hB0 hb hK (by omega)
  obtain ⟨N, hN⟩ : ∃ N, N = askE ks id dom msg := ⟨_, rfl⟩
  rw [← hN] at HA he ⊢
  have HA := Lib.hid HA
  have hni : ¬ (N : Int) = 0 := by omega
  clear hB hB0 hb hK hl hN he
  go_enter Tryd.func26, Tryd.ntmps26
  go_wp2_with (go_at_call 40; refine HA.out.mono ?_; rintro e w1 ⟨rfl, hg1⟩; have G1 := Lib.hid hg1; clear hg1)
  go_returns
  exact ⟨rfl, G1.out⟩
set_option maxRecDepth 100000 in
set_option maxHeartbeats 2000000 in
theorem refSign_ok (w : World) (m : Nat) (kv : Value) (ks : List (ByteArray × List Nat)) (id dom : ByteArray) (hd : dom.size ≤ 1000) (va : Option Addr) (n vc : Nat) (msg k : List Nat) (hB : Bytes w (.slice va n vc) msg) (hB0 : Whole0 (.slice va n vc)) (hb : w.heap[m]? = some (.cells #[kv, .slice none 0 0] 43 (0, 0))) (hK : KeysV w kv ks) (hl : ks.length ≤ 1000)
    (hk : fd ks id = some k) (hk32 : k.length = 32) (he : fErr (strL dom) [msg] = 0) :
    Calls Tryd.prog 26 #[.pointer (some ⟨m, 0, none⟩), .string id, .string dom, .slice va n vc] w fun e w' => ∃ a c bv, e = .returned (.tuple #[.slice a 32 c, .int .i64 0]) ∧ Bytes w' (.slice a 32 c) (Hm.hmac k (frameOf (strL dom) [msg])) ∧ w.grownBy w' (some m) ∧ w'.heap[m]? = some (.cells #[kv, bv] 43 (0, 0)) ∧ LinesV w' bv [(id, dom, strOf msg)] := by
  have ha := asked_any w m kv (.slice none 0 0) ks id dom hd va n vc msg hB hB0 hb hK (by omega)
  have e0 : askE ks id dom msg = 0 := by unfold askE; rw [hk, if_neg (by simp)]; exact he
  rw [e0] at ha
  have HA := Lib.hid ha
  have HFd : Hid (∀ W, w.grownBy W none → Calls Tryd.prog 37 #[.pointer (some ⟨m, 0, none⟩), .string id] W fun e w' => (∃ ya yc, e = .returned (.tuple #[.slice ya 32 yc, .bool true]) ∧ Bytes w' (.slice ya 32 yc) k ∧ Whole0 (.slice ya 32 yc)) ∧ W.grownBy w' none) := Lib.hid (fun W hW => by
    have := find_any W m kv (.slice none 0 0) ks id ((hW.block _ (blk_lt hb) (by simp)).trans hb) (hK.grown hW) (by omega)
    rw [hk] at this
    refine this.mono ?_
    rintro e w' ⟨hg, y, rfl, hy, hy0⟩
    have hy2 := hy.grown hg
    obtain ⟨_, ya, _, _, yc, rfl, _⟩ := hy
    rw [hk32] at hy2 hy0 ⊢
    exact ⟨⟨ya, yc, rfl, hy2, hy0⟩, hg⟩)
  have HIn : Hid (∀ W x y z, W.heap[m]? = some (.cells #[kv, .slice none 0 0] 43 (0, 0)) → Calls Tryd.prog 41 #[.pointer (some ⟨m, 0, none⟩), .agg #[.string x, .string y, .string z]] W fun e w' => e = .returned (.bool false) ∧ W.grownBy w' none) := Lib.hid (fun W x y z h => by
    have := inBook_any W m kv (.slice none 0 0) [] x y z h ⟨none, 0, 0, 0, rfl, fun h => absurd h (by simp), fun j hj => absurd hj (by simp)⟩ (by simp)
    simpa using this)
  obtain ⟨X, hX⟩ : ∃ X, X = strOf msg := ⟨_, rfl⟩
  have HCV : Hid (∀ W, w.grownBy W none → (convert 22 9 (.slice va n vc)).run Tryd.prog W = .ok (.string X) W) := Lib.hid (fun W hW => by rw [hX]; exact conv_bytes (hB.grown hW) _ 5 _ Tryd.underlying22 Tryd.underlying5 Tryd.underlying9)
  obtain ⟨K, hKk⟩ : ∃ K, K = Hm.hmac k (frameOf (strL dom) [msg]) := ⟨_, rfl⟩
  obtain ⟨D, hD⟩ : ∃ D, D = bytesV K := ⟨_, rfl⟩
  have hKl : K.length = 32 := by rw [hKk]; exact hmac_len _ _
  have hK8 : ∀ x ∈ K, x < 256 := by rw [hKk]; exact hmac_lt _ _
  have hDs : D.size = 32 := by rw [hD, bytesV_size, hKl]
  have HT : Hid (∀ W g ya yc, w.grownBy W none → W.heap[g]? = some (.cells #[.slice va n vc] 22 (0, 0)) → Bytes W (.slice ya 32 yc) k → Whole0 (.slice ya 32 yc) → Calls Tryd.prog 22 #[.slice ya 32 yc, .string dom, .slice (some ⟨g, 0, none⟩) 1 1] W fun e w' => e = .returned (.agg D) ∧ W.grownBy w' none) := Lib.hid (fun W g ya yc hW hg hy hy0 => by
    rw [hD, hKk]
    exact refTag_any _ k dom [msg] (some ⟨g, 0, none⟩) g 0 1 1 rfl W hy hy0 (by omega) (fun _ => ⟨rfl, blk_lt hg⟩) (one_part hg (hB.grown hW) hB0) (by omega) (by decide) he)
  have hz32 := zeros32_at w
  have HID : Hid ((Tryd.prog.info? 64).map (·.size) = some D.size) := Lib.hid (by rw [hDs]; kernel_rfl)
  have HIzD : Hid (zeros32.size = D.size) := Lib.hid (by rw [hDs]; rfl)
  have HOD : Hid (D.all (·.oneCell') = true) := Lib.hid (by rw [hD]; exact bytesV_one _)
  have HBy : Hid (∀ W g, W.heap[g]? = some (.cells D 64 (0, 0)) → Bytes W (.slice (some ⟨g, 0, none⟩) 32 32) K) := Lib.hid (fun W g h => by
    rw [hD] at h
    have := row_bytes hK8 h
    rw [hKl] at this; exact this)
  have HK8 := Lib.hid hK8
  have HKl := Lib.hid hKl
  have HU := Lib.hid uInfo
  have HBb := Lib.hid hb
  rw [← hKk, ← hX]
  clear ha e0 hk hk32 he hB hB0 hb hK hl hX hKk hD hKl hK8 hDs hd
  go_enter Tryd.func26, Tryd.ntmps26
  go_wp2_with (first
    | (go_at_call 40; refine HA.out.mono ?_; rintro e w1 ⟨rfl, hg1⟩; have G1 := Lib.hid hg1; clear hg1)
    | (go_at_call 37; refine (HFd.out w1 G1.out).mono ?_; rintro e w2 ⟨⟨ya, yc, rfl, hy, hy0⟩, hg2⟩; have G2 := Lib.hid (grown_trans G1.out hg2); have Y2 := Lib.hid hy; have Z2 := Lib.hid hy0; clear hg2 hy hy0)
    | (go_at_call 22; obtain ⟨w3, hw3⟩ : ∃ w3, w3 = w2.alloc (.cells #[.slice va n vc] 22) := ⟨_, rfl⟩; rw [← hw3]; have g3 : w2.grownBy w3 none := (by rw [hw3]; exact World.grownBy_alloc _ _ _); refine (HT.out w3 w2.heap.size ya yc (grown_trans G2.out g3) (by rw [hw3]; exact alloc_at _ _) (Y2.out.grown g3) Z2.out).mono ?_; rintro e w4 ⟨rfl, hg4⟩; have G4 := Lib.hid (grown_trans G2.out (grown_trans g3 hg4)); have Z4 := Lib.hid (alloc_at w4 (.cells zeros32 64)); clear hg4 g3 hw3)
    | (refine wpList_store_row (by rfl) 64 (.tmp 13) (.tmp 33) (by rfl) w4.heap.size D (by rfl) (by rfl) _ _ Z4.out HID.out HIzD.out HOD.out ?_; obtain ⟨W5, hW5⟩ : ∃ W5, W5 = (w4.alloc (.cells zeros32 64)).setRow w4.heap.size D := ⟨_, rfl⟩; rw [← hW5]; have G5 : Hid (w.grownBy W5 none) := Lib.hid (by rw [hW5]; exact grown_setRow (grown_alloc G4.out _) G4.out.size _); have B5 : Hid (W5.heap[w4.heap.size]? = some (.cells D 64 (0, 0))) := Lib.hid (by rw [hW5]; exact setRow_heap _ _ _ _ _ _ Z4.out); have cv5 := HCV.out W5 G5.out; clear hW5)
    | (go_at_call 41; obtain ⟨w6, hw6⟩ : ∃ w6, w6 = W5.alloc (.cells #[.string id, .string dom, .string X] 98) := ⟨_, rfl⟩; rw [← hw6]; have g6 : W5.grownBy w6 none := (by rw [hw6]; exact World.grownBy_alloc _ _ _); have L6 : Hid (w6.heap[W5.heap.size]? = some (.cells #[.string id, .string dom, .string X] 98 (0, 0))) := Lib.hid (by rw [hw6]; exact alloc_at _ _); have G6 := Lib.hid (grown_trans G5.out g6); have B6 := Lib.hid ((g6.block _ (blk_lt B5.out) (by simp)).trans B5.out); refine (HIn.out w6 id dom X ((G6.out.block _ (blk_lt HBb.out) (by simp)).trans HBb.out)).mono ?_; rintro e w7 ⟨rfl, hg7⟩; have G7 := Lib.hid (grown_trans G6.out hg7); have B7 := Lib.hid ((hg7.block _ (blk_lt B6.out) (by simp)).trans B6.out); have L7 := Lib.hid ((hg7.block _ (blk_lt L6.out) (by simp)).trans L6.out); clear hg7 g6 hw6))
  refine rs_region8 _ m W5.heap.size id dom X kv w7 _ _ rfl rfl rfl ((G7.out.block _ (blk_lt HBb.out) (by simp)).trans HBb.out) L7.out ⟨rfl, rfl, rfl, Nat.le_refl _, fun _ _ _ => rfl⟩ (fun us w8 g C pad h52 hg8 hgg hl8 => ?_)
  simp only [kfill_cons, kfill_nil, Act.put, List.setIfInBounds_toArray, List.set_cons_succ, List.set_cons_zero]
  obtain ⟨w9, hw9⟩ : ∃ w9, w9 = w8.setCell ⟨m, 1, none⟩ (.slice (some ⟨g, 0, none⟩) 1 C) := ⟨_, rfl⟩
  have hb8 := (hg8.block _ (blk_lt ((G7.out.block _ (blk_lt HBb.out) (by simp)).trans HBb.out)) (by simp)).trans ((G7.out.block _ (blk_lt HBb.out) (by simp)).trans HBb.out)
  have HM9 : Hid (w9.heap[m]? = some (.cells #[kv, .slice (some ⟨g, 0, none⟩) 1 C] 43 (0, 0))) := Lib.hid (by rw [hw9]; exact setCell_heap hb8 _)
  have hmlt : m < w7.heap.size := Nat.lt_of_lt_of_le (blk_lt HBb.out) G7.out.size
  have oth : ∀ q, q ≠ m → w9.heap[q]? = w8.heap[q]? := fun q hq => by rw [hw9]; exact Below.heap_setCell _ _ _ _ hq
  have HL9 : Hid (w9.heap[g]? = some (.cells (#[.string id, .string dom, .string X] ++ pad) 98 (0, 0))) := Lib.hid ((oth g (by omega)).trans hl8)
  have hB7 := B7.out
  have HB9 : Hid (w9.heap[w4.heap.size]? = some (.cells D 64 (0, 0))) := Lib.hid ((oth _ (fun e => by
    rw [← e] at hb8
    rw [hg8.block _ (blk_lt hB7) (by simp), hB7] at hb8
    simp at hb8)).trans ((hg8.block _ (blk_lt hB7) (by simp)).trans hB7))
  have HG9 : Hid (w.grownBy w9 (some m)) := Lib.hid (by rw [hw9]; exact grown_set (grown_any (grown_trans G7.out hg8)) (.inr rfl) _)
  rw [← hw9]
  clear hw9 hb8 hmlt oth hB7 hl8 hg8 hgg h52
  go_wp2_with (refine wpList_appB (by rfl) (.tmp 55) (.tmp 56) 22 (by rfl) w9.heap.size 5 _ 1 Tryd.underlying22 HU.out rfl (by decide) _ 0 [] (by rfl) (ownsRow_lit (cs := #[]) (alloc_at w9 _) (Nat.le_refl _) (by simp)) _ K (by rfl) (HBy.out _ _ (alloc_keep HB9.out)) (Whole0.some _ _ _) (by rw [HKl.out]; decide) (by rw [alloc_size]; omega) ?_; intro v10 w10 ho10 hg10; rw [HKl.out, Nat.zero_add, List.nil_append] at ho10; obtain ⟨a10, g10, c10, rfl, -, -, -, -⟩ := ownsRow_form ho10; have O10 := Lib.hid ho10; have G10 : Hid (w9.grownBy w10 none) := Lib.hid (grown_own (World.grownBy_alloc _ _ _) (ownsRow_lit (cs := #[]) (alloc_at w9 _) (Nat.le_refl _) (by simp)) (Nat.le_refl _) hg10); clear ho10 hg10)
  go_returns
  have hl10 := (G10.out.block _ (blk_lt HL9.out) (by simp)).trans HL9.out
  refine ⟨_, _, _, rfl, Bytes.own O10.out HK8.out, ?_, (G10.out.block _ (blk_lt HM9.out) (by simp)).trans HM9.out, some ⟨g, 0, none⟩, g, 0, C, rfl, fun _ => ⟨rfl, blk_lt hl10⟩, fun j hj => ?_⟩
  · exact ⟨G10.out.os.trans HG9.out.os, G10.out.tape.trans HG9.out.tape, G10.out.output.trans HG9.out.output, Nat.le_trans HG9.out.size G10.out.size, fun q hq hn => (G10.out.block q (Nat.lt_of_lt_of_le hq HG9.out.size) (by simp)).trans (HG9.out.block q hq hn)⟩
  · obtain rfl : j = 0 := by simpa using hj
    exact ⟨cell_blk hl10 0 (by rw [Array.getElem?_append_left (by simp)]; rfl), cell_blk hl10 1 (by rw [Array.getElem?_append_left (by simp)]; rfl), cell_blk hl10 2 (by rw [Array.getElem?_append_left (by simp)]; rfl)⟩
end Go.Proofs.YtgdnndapmcjoeaaDoor
