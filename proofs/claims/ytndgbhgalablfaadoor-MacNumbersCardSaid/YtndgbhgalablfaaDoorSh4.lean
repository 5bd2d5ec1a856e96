/- The walk of (*chain).mix. -/
import Derived.Test.YtndgbhgalablfaaDoorSh3
namespace Go.Proofs.YtndgbhgalablfaaDoor
open Go.RowKit

/-- What sha's two variables hold. -/
structure Laid (w : World) : Prop where
  size : 30 < w.heap.size
  start : w.rangeAt 28 0 (stV Sha.first).toList
  rounds : ∀ i, i < 64 → w.cell? ⟨30, i, none⟩ = some (.int .u32 (Sha.ks.getD i 0 : Nat))
theorem Laid.grown {w w' : World} {row : Option Nat} (h : Laid w) (hg : w.grownBy w' row) (h0 : some 28 ≠ row) (h1 : some 30 ≠ row) : Laid w' :=
  ⟨Nat.lt_of_lt_of_le h.size hg.size, range_grown hg h.start (by have := h.size; omega) h0, fun i hi => by
    rw [World.cell?_of_block (hg.block 30 h.size h1)]; exact h.rounds i hi⟩

def hsL (s : Sha.HS) : List Value := (stV s.words).toList ++ ([.int .i64 (s.blocks : Int)] ++ ((bytesV s.bytes).toList ++ [.int .i64 (s.filled : Int)]))
/-- Block b is that hash. -/
def IsHash (w : World) (b : Nat) (s : Sha.HS) : Prop := w.heap[b]? = some (.cells (hsL s).toArray 101 (0, 0))

theorem IsHash.words {w : World} {b : Nat} {s : Sha.HS} (h : IsHash w b s) : w.rangeAt b 0 (stV s.words).toList := range_blk (pre := []) h
theorem IsHash.blocks {w : World} {b : Nat} {s : Sha.HS} (h : IsHash w b s) : w.cell? ⟨b, 8, none⟩ = some (.int .i64 (s.blocks : Int)) := cell_blk h 8 rfl
theorem IsHash.free {w : World} {b : Nat} {s : Sha.HS} (h : IsHash w b s) (i : Nat) : w.frozen? ⟨b, i, none⟩ = false := free_blk h i
theorem IsHash.lt {w : World} {b : Nat} {s : Sha.HS} (h : IsHash w b s) : b < w.heap.size := blk_lt h
theorem IsHash.grown {w w' : World} {b : Nat} {s : Sha.HS} {row : Option Nat} (h : IsHash w b s) (hg : w.grownBy w' row) (hne : some b ≠ row) : IsHash w' b s := (hg.block b h.lt hne).trans h
theorem hsL_len {s : Sha.HS} (h : s.ok) : (hsL s).length = 74 := by simp [hsL, stV, bytesV, h.len]
theorem IsHash.there {w : World} {b : Nat} {s : Sha.HS} (h : IsHash w b s) (hs : s.ok) (o n : Nat) (hn : o + n ≤ 74) : w.there b o n := there_blk h o n (by simp [hsL_len hs, hn])
theorem IsHash.setWords {w : World} {b : Nat} {s : Sha.HS} (h : IsHash w b s) (r : Sha.St) : IsHash (w.setCells b 0 (stV r).toList) b { s with words := r } :=
  setCells_heap (pre := []) (stV r).toList (stV s.words).toList _ w h rfl
theorem IsHash.setBlocks {w : World} {b : Nat} {s : Sha.HS} (h : IsHash w b s) (n : Nat) : IsHash (w.setCell ⟨b, 8, none⟩ (.int .i64 (n : Int))) b { s with blocks := n } := by
  have := setCells_heap [.int .i64 (n : Int)] (stV s.words).toList [.int .i64 (s.blocks : Int)] ((bytesV s.bytes).toList ++ [.int .i64 (s.filled : Int)]) w (by rw [List.append_assoc]; exact h) rfl
  rw [List.append_assoc] at this
  exact this

theorem stV_one (s : Sha.St) : (stV s).all (·.oneCell') = true := by simp [stV, Value.oneCell']

/-- What comes by allocation alone. -/
def Grows (W : World) : World → Prop := fun w' => W.grownBy w' none
theorem Grows.drew (W : World) : Grows W { W with drawn := W.drawn + 1 } := ⟨rfl, rfl, rfl, Nat.le_refl _, fun _ _ _ => rfl⟩

/-- The world where mix's two ways meet. -/
structure MixF' (w W : World) (b : Nat) (s : Sha.HS) : Prop where
  grown : w.grownBy W (some b)
  hash : IsHash W b s
  laid : Laid W
structure MixF (w W : World) (b : Nat) (s : Sha.HS) (V : Array Value) : Prop extends MixF' w W b s where
  size : W.heap.size = w.heap.size + 1
  blk : W.heap[w.heap.size]? = some (.cells V 76 (0, 0))

theorem MixF.start {w : World} {b : Nat} {s : Sha.HS} (V : Array Value) (h : IsHash w b s) (hL : Laid w) : MixF w (w.alloc (.cells V 76)) b s V :=
  ⟨⟨World.grownBy_alloc _ _ _, h.grown (World.grownBy_alloc _ _ none) (by simp), hL.grown (World.grownBy_alloc _ _ none) (by simp) (by simp)⟩, alloc_size _ _, alloc_at _ _⟩
theorem MixF'.words {w W : World} {b : Nat} {s : Sha.HS} (h : MixF' w W b s) (hb : 30 < b) (r : Sha.St) : MixF' w (W.setCells b 0 (stV r).toList) b { s with words := r } :=
  have g := grown_setCells (row := some b) b (.inr rfl) (stV r).toList 0 _ h.grown
  have g' := grown_setCells (row := some b) b (.inr rfl) (stV r).toList 0 _ (grown_refl W (some b))
  ⟨g, h.hash.setWords r, h.laid.grown g' (by simp; omega) (by simp; omega)⟩
theorem MixF.words {w W : World} {b : Nat} {s : Sha.HS} {V : Array Value} (h : MixF w W b s V) (hb : 30 < b) (hbl : b < w.heap.size) (r : Sha.St) : MixF w (W.setCells b 0 (stV r).toList) b { s with words := r } V :=
  ⟨h.toMixF'.words hb r, by rw [setCells_size]; exact h.size, by rw [setCells_other (by omega)]; exact h.blk⟩
theorem MixF'.grows {w W W' : World} {b : Nat} {s : Sha.HS} (h : MixF' w W b s) (hg : Grows W W') : MixF' w W' b s :=
  ⟨grown_trans h.grown (grown_any hg), h.hash.grown hg (by simp), h.laid.grown hg (by simp) (by simp)⟩
theorem MixF'.blocks {w W : World} {b : Nat} {s : Sha.HS} (h : MixF' w W b s) (n : Nat) : w.grownBy (W.setCell ⟨b, 8, none⟩ (.int .i64 (n : Int))) (some b) ∧ IsHash (W.setCell ⟨b, 8, none⟩ (.int .i64 (n : Int))) b { s with blocks := n } :=
  ⟨grown_set h.grown (.inr rfl) _, h.hash.setBlocks n⟩

set_option maxRecDepth 100000 in
set_option maxHeartbeats 1000000 in
theorem mix_any (s : Sha.HS) (bs : List Nat) (hs : s.ok) (hb : bs.length = 64) (hlt : ∀ x ∈ bs, x < 256) (b : Nat) (w : World) (hH : IsHash w b s) (hb2 : 30 < b) (hL : Laid w) :
    Calls Tryd.prog 66 #[.pointer (some ⟨b, 0, none⟩), .agg (bytesV bs)] w fun e w' => e = .returned (.tuple #[]) ∧ w.grownBy w' (some b) ∧ IsHash w' b (s.mix bs) := by
  obtain ⟨V, hV⟩ : ∃ V, V = bytesV bs := ⟨_, rfl⟩
  rw [← hV]
  have c8 := hH.blocks
  have hbl := hH.lt
  have i49 : Hid ((Tryd.prog.info? 95).map (·.size) = some 8) := Lib.hid (by kernel_rfl)
  have i47 : Hid ((Tryd.prog.info? 76).map (·.size) = some 64) := Lib.hid (by kernel_rfl)
  have F0 := Lib.hid (MixF.start V hH hL)
  have Hbase := Lib.hid (Sha.HS.base_ok hs)
  have Hs := Lib.hid hs
  have HV := Lib.hid hV
  have Hs' : Hid (Sha.HS.ok { s with words := s.base }) := Lib.hid ⟨Sha.HS.base_ok hs, hs.len, hs.lt, hs.filled, hs.blocks⟩
  have Hlt := Lib.hid hlt
  clear hV hH hL hs hlt
  by_cases h0 : s.blocks = 0
  · rw [h0] at c8
    have H0 := Lib.hid h0
    clear h0
    go_enter Tryd.func66, Tryd.ntmps66
    go_wp2_with (first
      | (refine wpList_load_mid (by rfl) 95 (.global 28) (by rfl) 28 0 (by rfl) (stV Sha.first).toList _ F0.out.laid.start Tryd.underlying95 (by rfl) i49.out ?_)
      | (refine wpList_store_mid (by rfl) 95 (.tmp 12) (.tmp 10) (by rfl) b 0 (stV Sha.first) (by rfl) (by rfl) (F0.out.hash.there Hs.out 0 _ (by simp [stV])) i49.out (stV_one _) ?_))
    have F1 := F0.out.words hb2 hbl Sha.first
    generalize World.setCells (w.alloc (Obj.cells V 76)) b 0 (stV Sha.first).toList = W2 at F1 ⊢
    have e : ({ s with words := Sha.first } : Sha.HS) = { s with words := s.base } := by simp [Sha.HS.base, H0.out]
    rw [e] at F1
    have F2 := Lib.hid F1
    clear F0 F1 e
    simp only [Act.put]
    refine wp_region_quiet_tail (Grows W2) 10 (by kernel_rfl) (by kernel_rfl) (Grows.drew W2) ?_
    simp only [List.take_succ_cons, List.take_zero, List.drop_succ_cons, List.drop_zero]
    iterate 4 (go_big_quiet_step ((exact fun _ => rfl)))
    refine wpQuiet_load_mid (by rfl) 95 (.tmp 16) (by rfl) b 0 (by rfl) (stV s.base).toList _ (fun w' hw' => range_grown hw' F2.out.hash.words F2.out.hash.lt (by simp)) Tryd.underlying95 (by rfl) i49.out ?_
    refine wpQuiet_load_mid (by rfl) 76 (.tmp 3) (by rfl) w.heap.size 0 (by rfl) (bytesV bs).toList _ (fun w' hw' => range_grown hw' (HV.out ▸ range_all F2.out.blk) (by have := F2.out.size; omega) (by simp)) Tryd.underlying76 (by rfl) (by rw [i47.out, Array.length_toList, bytesV_size, hb]) ?_
    refine wpQuiet_call (by rfl) 75 #[.agg (bytesV bs)] (.agg (wordsV (Sha.sched bs))) (fun _ => by simp [go_sem, Act.put]) (fun w' hw' => (schedule_any bs hb Hlt.out w').mono fun e w'' ⟨h1, h2⟩ => ⟨h1, grown_trans hw' h2⟩) ?_
    refine wpQuiet_call (by rfl) 74 #[.agg (stV s.base), .agg (wordsV (Sha.sched bs))] (.agg (stV (Sha.comp s.base bs))) (fun _ => by simp [go_sem, Act.put]) (fun w' hw' => (compress_any s.base Sha.ks (Sha.sched bs) Hbase.out (Sha.sched_len bs) w' (F2.out.laid.grown hw' (by simp) (by simp)).size (F2.out.laid.grown hw' (by simp) (by simp)).rounds).mono fun e w'' ⟨h1, h2⟩ => ⟨h1, grown_trans hw' h2⟩) ?_
    iterate 2 (refine wpQuiet_same (by rfl) (.pointer (some ⟨b, 0, none⟩)) (fun _ _ => by simp [go_sem, Act.put]) ?_)
    simp only [Act.put, List.setIfInBounds_toArray, List.set_cons_succ, List.set_cons_zero, Array.toArray_toList]
    refine wpQuiet_nil ?_
    intro W3 hW3
    clear i49 i47
    refine wpList_store_mid (by rfl) 95 (.tmp 22) (.tmp 20) (by rfl) b 0 (stV (Sha.comp s.base bs)) (by rfl) (by rfl) ((F2.out.hash.grown hW3 (by simp)).there Hs'.out 0 _ (by simp [stV])) (by kernel_rfl) (stV_one _) ?_
    have F3 := F2.out.toMixF'.grows hW3
    have F4 := F3.words hb2 (Sha.comp s.base bs)
    generalize World.setCells W3 b 0 (stV (Sha.comp s.base bs)).toList = W4 at F4 ⊢
    have d8 : W4.cell? ⟨b, 8, none⟩ = some (.int .i64 (s.blocks : Int)) := F4.hash.blocks
    have d8' : W4.frozen? ⟨b, 8, none⟩ = false := F4.hash.free 8
    have hbk : s.blocks < 1152921504606846976 := Hs.out.blocks
    have F5 := Lib.hid F4
    clear F3 F4 hW3 F2
    simp only [Act.put]
    go_wp2
    go_end0
    exact ⟨rfl, (F5.out.blocks (s.blocks + 1)).1, (F5.out.blocks (s.blocks + 1)).2⟩
  · have hn : ((s.blocks : Int) == 0) = false := beq_eq_false_iff_ne.2 (by omega)
    have H0 := Lib.hid h0
    clear h0
    go_enter Tryd.func66, Tryd.ntmps66
    go_wp2
    have F1 := F0.out
    generalize World.alloc w (Obj.cells V 76) = W2 at F1 ⊢
    have e : s = { s with words := s.base } := by simp [Sha.HS.base, H0.out]
    have F1 : MixF w W2 b { s with words := s.base } V := by rw [← e]; exact F1
    clear hn e
    have F2 := Lib.hid F1
    clear F0 F1
    refine wp_region_quiet_tail (Grows W2) 10 (by kernel_rfl) (by kernel_rfl) (Grows.drew W2) ?_
    simp only [List.take_succ_cons, List.take_zero, List.drop_succ_cons, List.drop_zero]
    iterate 4 (go_big_quiet_step ((exact fun _ => rfl)))
    refine wpQuiet_load_mid (by rfl) 95 (.tmp 16) (by rfl) b 0 (by rfl) (stV s.base).toList _ (fun w' hw' => range_grown hw' F2.out.hash.words F2.out.hash.lt (by simp)) Tryd.underlying95 (by rfl) i49.out ?_
    refine wpQuiet_load_mid (by rfl) 76 (.tmp 3) (by rfl) w.heap.size 0 (by rfl) (bytesV bs).toList _ (fun w' hw' => range_grown hw' (HV.out ▸ range_all F2.out.blk) (by have := F2.out.size; omega) (by simp)) Tryd.underlying76 (by rfl) (by rw [i47.out, Array.length_toList, bytesV_size, hb]) ?_
    refine wpQuiet_call (by rfl) 75 #[.agg (bytesV bs)] (.agg (wordsV (Sha.sched bs))) (fun _ => by simp [go_sem, Act.put]) (fun w' hw' => (schedule_any bs hb Hlt.out w').mono fun e w'' ⟨h1, h2⟩ => ⟨h1, grown_trans hw' h2⟩) ?_
    refine wpQuiet_call (by rfl) 74 #[.agg (stV s.base), .agg (wordsV (Sha.sched bs))] (.agg (stV (Sha.comp s.base bs))) (fun _ => by simp [go_sem, Act.put]) (fun w' hw' => (compress_any s.base Sha.ks (Sha.sched bs) Hbase.out (Sha.sched_len bs) w' (F2.out.laid.grown hw' (by simp) (by simp)).size (F2.out.laid.grown hw' (by simp) (by simp)).rounds).mono fun e w'' ⟨h1, h2⟩ => ⟨h1, grown_trans hw' h2⟩) ?_
    iterate 2 (refine wpQuiet_same (by rfl) (.pointer (some ⟨b, 0, none⟩)) (fun _ _ => by simp [go_sem, Act.put]) ?_)
    simp only [Act.put, List.setIfInBounds_toArray, List.set_cons_succ, List.set_cons_zero, Array.toArray_toList]
    refine wpQuiet_nil ?_
    intro W3 hW3
    clear i49 i47
    refine wpList_store_mid (by rfl) 95 (.tmp 22) (.tmp 20) (by rfl) b 0 (stV (Sha.comp s.base bs)) (by rfl) (by rfl) ((F2.out.hash.grown hW3 (by simp)).there Hs'.out 0 _ (by simp [stV])) (by kernel_rfl) (stV_one _) ?_
    have F3 := F2.out.toMixF'.grows hW3
    have F4 := F3.words hb2 (Sha.comp s.base bs)
    generalize World.setCells W3 b 0 (stV (Sha.comp s.base bs)).toList = W4 at F4 ⊢
    have d8 : W4.cell? ⟨b, 8, none⟩ = some (.int .i64 (s.blocks : Int)) := F4.hash.blocks
    have d8' : W4.frozen? ⟨b, 8, none⟩ = false := F4.hash.free 8
    have hbk : s.blocks < 1152921504606846976 := Hs.out.blocks
    have F5 := Lib.hid F4
    clear F3 F4 hW3 F2
    simp only [Act.put]
    go_wp2
    go_end0
    exact ⟨rfl, (F5.out.blocks (s.blocks + 1)).1, (F5.out.blocks (s.blocks + 1)).2⟩

end Go.Proofs.YtndgbhgalablfaaDoor
