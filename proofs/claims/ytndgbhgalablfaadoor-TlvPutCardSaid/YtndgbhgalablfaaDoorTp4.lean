/- The walk of tlv's Next. -/
import Derived.Test.YtndgbhgalablfaaDoorTp3
namespace Go.Proofs.YtndgbhgalablfaaDoor
open Go.RowKit

/-- What Next answers. -/
def NxPost (A : Nat → Addr) (w' : World) (l : List Nat) (r : Except Nat (Nat × Nat × Nat)) (e : Ending) : Prop :=
  match r with
  | .error k => e = .returned (.tuple #[.agg #[.int .i64 0, .slice none 0 0], .slice none 0 0, errV A k])
  | .ok (t, i, n) => ∃ ab cb ar m cr, i + n + m = l.length ∧ e = .returned (.tuple #[.agg #[.int .i64 t, .slice ab n cb], .slice ar m cr, .nilIface]) ∧
      Bytes w' (.slice ab n cb) ((l.drop i).take n) ∧ Bytes w' (.slice ar m cr) (l.drop (i + n))

set_option maxRecDepth 100000 in
set_option maxHeartbeats 1000000 in
theorem next_any (A : Nat → Addr) (v : Value) (l : List Nat) (w : World) (hB : Bytes w v l) (h0 : Whole0 v) (hl : l.length ≤ 1099511620000) (hE : AllErrs w A) :
    Calls Tryd.prog 26 #[v] w fun e w' => NxPost A w' l (Tl.first l) e ∧ w.grownBy w' none := by
  obtain ⟨w0, hw0⟩ : ∃ w0, w0 = w.alloc (.cells #[.int .i64 0, .slice none 0 0] 46) := ⟨_, rfl⟩
  have G0 : Hid (w.grownBy w0 none) := Lib.hid (by rw [hw0]; exact World.grownBy_alloc _ _ _)
  have hb0 : w0.heap[w.heap.size]? = some (.cells #[.int .i64 0, .slice none 0 0] 46 (0, 0)) := by rw [hw0]; exact alloc_at _ _
  obtain ⟨g, hg⟩ : ∃ g, g = w.heap.size := ⟨_, rfl⟩
  rw [← hg] at hb0
  have HGl := Lib.hid (show w.heap.size ≤ g by omega)
  have HG0 := Lib.hid (show g < w0.heap.size from blk_lt hb0)
  have HBx : Hid (∀ W, w0.grownBy W none → W.heap[g]? = some (.cells #[.int .i64 0, .slice none 0 0] 46 (0, 0))) := Lib.hid (fun W hW => (hW.block _ (blk_lt hb0) (by simp)).trans hb0)
  have HF := Lib.hid (tlvFirst_any A v l w0 (hB.grown G0.out) h0 (by omega) (hE.grown G0.out))
  have HB := Lib.hid hB
  have HL := Lib.hid hl
  have HW0 := Lib.hid hw0
  have HG := Lib.hid hg
  have HFin : Hid (∀ (v u s : Value) (tmps : Array Value) (y : Value) (W3 W : World), w0.grownBy W3 none → W = ((W3.setCell ⟨g, 0, none⟩ v).setCell ⟨g, 1, none⟩ u) → tmps.getD 2 undef = .pointer (some ⟨g, 0, none⟩) → tmps.getD 3 undef = s → tmps.getD 4 undef = y →
      (results Tryd.f26 tmps).run Tryd.prog W = .ok (.tuple #[.agg #[v, u], s, y]) W) := Lib.hid (fun v u s tmps y W3 W h3 hW h2 hs hy => by
    have hb := set2_heap (HBx.out W3 h3) v u
    rw [← hW] at hb
    exact results_row_tmp2 Tryd.results26 tmps W g _ _ (0, 0) _ _ _ h2 hb Tryd.underlying46 rfl elI hs hy)
  obtain ⟨_, va, vsb, vso, vc, rfl, _⟩ := hB
  clear h0 hE hw0 hg hb0 hl
  cases hfst : Tl.first l with
  | error k =>
    rw [hfst] at HF
    clear hfst
    generalize l.length = n at *
    go_enter Tryd.func26, Tryd.ntmps26
    go_wp2_with (go_at_call 43; rw [← HW0.out, ← HG.out]; refine HF.out.mono ?_; rintro e w2 ⟨rfl, hg2⟩; have HG2 := Lib.hid hg2; have c0 := fun o => cell_blk (HBx.out (w2.alloc o) (grown_alloc hg2 o)) 0 rfl; have c1 := fun o => cell_blk (HBx.out (w2.alloc o) (grown_alloc hg2 o)) 1 rfl; have f0 := fun o => free_blk (HBx.out (w2.alloc o) (grown_alloc hg2 o)) 0; have f1 := fun o => free_blk (HBx.out (w2.alloc o) (grown_alloc hg2 o)) 1; clear hg2)
    exact bodyPost_ret (HFin.out _ _ _ _ _ _ _ (grown_alloc HG2.out _) rfl (by rfl) (by rfl) (by rfl)) rfl ⟨rfl, grown_set2 (grown_trans G0.out (grown_alloc HG2.out _)) HGl.out _ _⟩
  | ok p =>
    obtain ⟨t, i, n'⟩ := p
    rw [hfst] at HF
    clear hfst
    obtain ⟨n, hn⟩ : ∃ n, n = l.length := ⟨_, rfl⟩
    have HN := Lib.hid hn
    rw [← hn] at HB HL HF ⊢
    clear hn
    have HOwn := Lib.hid (fun v l w a b c => own_any (t : Int) v l w a b c)
    go_enter Tryd.func26, Tryd.ntmps26
    go_wp2_with (first
      | (go_at_call 43; rw [← HW0.out, ← HG.out]; refine HF.out.mono ?_; rintro e w2 ⟨⟨ab, cb, ar, m, cr, hlen, rfl, hp1, W1, hp2, W2⟩, hg2⟩; have HG2 := Lib.hid hg2; have P1 := Lib.hid (hp1 w (HB.out)); have P2 := Lib.hid (hp2 w (HB.out)); have HW1' := Lib.hid W1; have HW2' := Lib.hid W2; have HLen := Lib.hid hlen; clear hg2 hlen hp1 hp2 W1 W2)
      | (go_at_call 44; refine (HOwn.out _ _ _ (P1.out.grown (grown_trans G0.out (grown_alloc HG2.out _))) HW1'.out (by rw [← P1.out.cap.1]; have := HLen.out; have := HN.out; have := HL.out; omega)).mono ?_; rintro e w4 ⟨u4, rfl, hF4, a4, c4, hu4⟩; rw [← P1.out.cap.1] at hu4; subst hu4; have F4 := Lib.hid hF4; have G4 := Lib.hid (grown_trans (grown_alloc HG2.out _) hF4.grown); clear hF4)
      | (go_at_call 45; refine (clone_any _ _ _ (P2.out.grown (grown_trans G0.out G4.out)) HW2'.out (by rw [← P2.out.cap.1]; have := HLen.out; have := HN.out; have := HL.out; omega)).mono ?_; rintro e w5 ⟨u5, rfl, hF5, a5, c5, hu5⟩; rw [← P2.out.cap.1] at hu5; subst hu5; have F5 := Lib.hid hF5; have G5 := Lib.hid (grown_trans G4.out hF5.grown); have k2 := HBx.out w5 (grown_trans G4.out hF5.grown); have c0 := cell_blk k2 0 rfl; have c1 := cell_blk k2 1 rfl; have f0 := free_blk k2 0; have f1 := free_blk k2 1; clear hF5 k2))
    refine bodyPost_ret (HFin.out _ _ _ _ _ _ _ G5.out rfl (by rfl) (by rfl) (by rfl)) rfl ⟨⟨_, _, _, _, _, ?_, rfl, ?_, ?_⟩, grown_set2 (grown_trans G0.out G5.out) HGl.out _ _⟩
    · exact HLen.out
    · have h1 := F4.out.own.kept F5.out.grown (Classical.em _)
      exact Bytes.own (ownsRow_but h1 (grown_row2 _ _ _ _) (by rw [alloc_size]; have := HG0.out; have := HG2.out.size; omega)) P1.out.lt
    · exact Bytes.own (ownsRow_but F5.out.own (grown_row2 _ _ _ _) (by have := HG0.out; have := G4.out.size; omega)) P2.out.lt
end Go.Proofs.YtndgbhgalablfaaDoor
