import Derived.Test.YtihioekepflpiaaGreatDoorZb05
import Derived.Test.YtihioekepflpiaaGreatDoorZb06
import Derived.Test.YtihioekepflpiaaGreatDoorZb22
import Derived.Lib.SliceRun
set_option linter.unusedVariables false
set_option linter.unusedSimpArgs false
namespace Go.Proofs.YtihioekepflpiaaGreatDoor
open Go.RowKit Bu Go.Sort
instance : Inhabited An := ⟨an0⟩
theorem an_arr (l : List An) (i : Nat) (h : i < l.length) : l.toArray[i]! = l.getD i an0 := by
  rw [getElem!_pos _ i (by simpa using h), List.getD_eq_getElem?_getD, List.getElem?_eq_getElem h]
  rfl
theorem an_holds {w : World} {g : Nat} {l : List An} (h : ∀ j u, (cellsA l)[j]? = some u → w.cell? ⟨g, j, none⟩ = some u) (hf : ∀ j, w.frozen? ⟨g, j, none⟩ = false) : HoldsK An.cs 4 w g 0 l.toArray := by
  intro t ht
  have ht4 : t < l.toArray.size * 4 := by simpa using ht
  have hl4 : t < l.length * 4 := by simpa using ht4
  refine ⟨?_, by rw [Nat.zero_add]; exact hf t⟩
  rw [Nat.zero_add, get_flatK _ _ _ _ ht4, an_arr l (t / 4) (by omega)]
  obtain ⟨k0, k1, k2, k3⟩ := cellsA_at l (t / 4) (by omega)
  rcases (by omega : t % 4 = 0 ∨ t % 4 = 1 ∨ t % 4 = 2 ∨ t % 4 = 3) with e | e | e | e <;> rw [e]
  · rw [show t / 4 * 4 = t by omega] at k0; exact h t _ k0
  · rw [show t / 4 * 4 + 1 = t by omega] at k1; exact h t _ k1
  · rw [show t / 4 * 4 + 2 = t by omega] at k2; exact h t _ k2
  · rw [show t / 4 * 4 + 3 = t by omega] at k3; exact h t _ k3
theorem an_cells {w : World} {g : Nat} {d : Array An} (h : HoldsK An.cs 4 w g 0 d) : ∀ j u, (cellsA d.toList)[j]? = some u → w.cell? ⟨g, j, none⟩ = some u := by
  intro t u hu
  have hl : t < (cellsA d.toList).length := by
    rcases Nat.lt_or_ge t (cellsA d.toList).length with h1 | h1
    · exact h1
    · rw [List.getElem?_eq_none h1] at hu; cases hu
  rw [cellsA_len] at hl
  have hi : t / 4 < d.size := by have : d.toList.length = d.size := by simp
                                 omega
  have hil : t / 4 < d.toList.length := by simpa using hi
  have e0 : d[t / 4]! = d.toList.getD (t / 4) an0 := by
    have := an_arr d.toList (t / 4) hil
    simpa using this
  obtain ⟨k0, k1, k2, k3⟩ := cellsA_at d.toList (t / 4) hil
  have hc := fun c (hc : c < 4) => (h.cell hi hc).1
  rcases (by omega : t % 4 = 0 ∨ t % 4 = 1 ∨ t % 4 = 2 ∨ t % 4 = 3) with e | e | e | e
  · have h1 := hc 0 (by omega)
    rw [e0, show 0 + t / 4 * 4 + 0 = t by omega] at h1
    rw [show t / 4 * 4 = t by omega, hu] at k0
    rw [h1]; exact k0.symm ▸ rfl
  · have h1 := hc 1 (by omega)
    rw [e0, show 0 + t / 4 * 4 + 1 = t by omega] at h1
    rw [show t / 4 * 4 + 1 = t by omega, hu] at k1
    rw [h1]; exact k1.symm ▸ rfl
  · have h1 := hc 2 (by omega)
    rw [e0, show 0 + t / 4 * 4 + 2 = t by omega] at h1
    rw [show t / 4 * 4 + 2 = t by omega, hu] at k2
    rw [h1]; exact k2.symm ▸ rfl
  · have h1 := hc 3 (by omega)
    rw [e0, show 0 + t / 4 * 4 + 3 = t by omega] at h1
    rw [show t / 4 * 4 + 3 = t by omega, hu] at k3
    rw [h1]; exact k3.symm ▸ rfl
/-- A world of the sort's has grown, but for its row. -/
theorem sortW_grown {α : Type} [Inhabited α] (enc : α → List Value) (k : Nat) (w : World) (blk off m : Nat) (dk : Array α) (os : Array Obj) : w.grownBy (sortWorldK enc k w blk off m dk os) (some blk) := by
  refine ⟨rfl, rfl, rfl, ?_, fun j hj hne => ?_⟩
  · unfold sortWorldK
    rw [size_grow, size_putRowK]
    exact Nat.le_add_right _ _
  · have hjb : j ≠ blk := fun e => hne (by rw [e])
    have hs : j < ((putRowK enc k (Sort.ahead w m) blk off dk).heap).size := by rw [size_putRowK]; exact hj
    show ((putRowK enc k (Sort.ahead w m) blk off dk).heap ++ os)[j]? = w.heap[j]?
    rw [Array.getElem?_append_left hs]
    show (w.heap.modify blk _)[j]? = w.heap[j]?
    rw [Array.getElem?_modify, if_neg (fun e => hjb e.symm)]
theorem cmp_swo : SWO (ltOf (fun x y : An => cmpI x.g y.g)) := by
  have e : ∀ x y : An, ltOf (fun x y : An => cmpI x.g y.g) x y = decide (x.g < y.g) := fun x y => by
    unfold ltOf cmpI
    rw [decide_eq_decide]
    show (if x.g < y.g then (-1 : Int) else if y.g < x.g then 1 else 0) < 0 ↔ x.g < y.g
    split
    · omega
    · split <;> omega
  refine ⟨fun x => by rw [e]; simp, fun x y z h1 h2 => ?_, fun x y z h1 h2 => ?_⟩
  · rw [e] at *; simp only [decide_eq_true_eq] at *; omega
  · rw [e] at *; simp only [decide_eq_false_iff_not] at *; omega
set_option maxRecDepth 100000 in
set_option maxHeartbeats 4000000 in
theorem risingC_any (x y : An) (w : World) :
    Calls Tryz.prog 45 #[.agg (An.cs x).toArray, .agg (An.cs y).toArray] w fun e w' => e = .returned (.int .i64 (cmpI x.g y.g)) ∧ w' = grow w #[.cells (An.cs x).toArray 33, .cells (An.cs y).toArray 33] := by
  obtain ⟨xg, xk, xf, xt⟩ := x
  obtain ⟨yg, yk, yf, yt⟩ := y
  unfold An.cs
  simp only
  have hw : grow w #[.cells ([.int .i64 xg, .string xk, .int .i64 xf, .int .i64 xt] : List Value).toArray 33, .cells ([.int .i64 yg, .string yk, .int .i64 yf, .int .i64 yt] : List Value).toArray 33] = (w.alloc (.cells #[.int .i64 xg, .string xk, .int .i64 xf, .int .i64 xt] 33)).alloc (.cells #[.int .i64 yg, .string yk, .int .i64 yf, .int .i64 yt] 33) := by
    rw [alloc_eq_grow, alloc_eq_grow, grow_grow]; rfl
  rw [hw]
  clear hw
  have HC := Lib.hid (fun W => cmpInt_any xg yg W)
  go_enter Tryz.func45, Tryz.ntmps45
  go_wp2_with (go_at_call 46; refine (HC.out _).mono ?_; rintro e w1 ⟨rfl, rfl⟩)
  go_ret
  exact ⟨rfl, rfl⟩
theorem rising_lays (g : Nat) (n : Nat) (w : World) : CmpLays Tryz.prog 45 #[] An.cs 4 (fun x y : An => cmpI x.g y.g) g 0 n w := fun m os dk hs x y =>
  (risingC_any x y _).mono (fun e w' h => ⟨h.1, 0, _, h.2⟩)
theorem an_isAgg (w : World) : (isAgg 33).run Tryz.prog w = .ok true w := by kernel_rfl
theorem an_sizeOf (w : World) : (sizeOf 33).run Tryz.prog w = .ok 4 w := by kernel_rfl
/-- What the sort answers. -/
def SortO (v : Value) (l : List An) (w : World) (e : Ending) (w' : World) : Prop := ∃ l', l'.Perm l ∧ l'.Pairwise (fun a b => a.g ≤ b.g) ∧ Ans w' v l' ∧ ∃ g, v.ownBlock = some g ∧ w.grownBy w' (some g)
theorem ansSort_any (base : Nat) (T : TypeId) (v : Value) (l : List An) (w : World) (h : w.ownsRow base T 4 v l.length (cellsA l)) (hl : 0 < l.length) (hl2 : l.length ≤ 2000) :
    Calls Tryz.prog 44 #[v, .func (.func 45) #[] #[]] w fun e w' => e = .returned (.tuple #[]) ∧ SortO v l w e w' := by
  obtain ⟨a, g, c, rfl, _, _, _, _, h2⟩ := own_formN h
  obtain ⟨rfl, hg, hc, hf⟩ := h2 hl
  have hS := AnyQ.slices_SortFunc (P := Tryz.prog) (ρ := Tryz.laysSortK_ren) Tryz.laysSortK 4 an_isAgg an_sizeOf An.cs (fun x => rfl) (fun x v hv => cellsA_one [x] v (by rw [cellsA, cellsA, List.append_nil]; exact hv)) (fun x y : An => cmpI x.g y.g) cmp_swo 45 #[] g 0 c l.toArray w (fun args w => by kernel_rfl) (rising_lays g _ w) (an_holds hc hf) hg (by simp; omega)
  have e1 : l.toArray.size = l.length := by simp
  rw [e1] at hS
  refine hS.mono (fun e w' hh => ?_)
  obtain ⟨he, d', n, os, hp, hs, rfl⟩ := hh
  have hsz : d'.size = l.length := by rw [hp.1]; simp
  refine ⟨he, d'.toList, ?_, ?_, ?_, g, rfl, sortW_grown _ _ _ _ _ _ _ _⟩
  · have := hp.2.2
    rw [show d'.extract 0 l.length = d' by rw [← hsz]; simp, show l.toArray.extract 0 l.length = l.toArray by rw [← e1]; simp] at this
    simpa using this
  · rw [List.pairwise_iff_getElem]
    intro i j hi hj hij
    have := hs i j (Nat.zero_le _) hij (by simpa [hsz] using hj)
    unfold ltOf at this
    rw [decide_eq_false_iff_not, getElem!_pos d' i (by simpa using hi), getElem!_pos d' j (by simpa using hj)] at this
    replace this : ¬ (cmpI (d'[j]'(by simpa using hj)).g (d'[i]'(by simpa using hi)).g < 0) := this
    unfold cmpI at this
    simp only [Array.getElem_toList]
    split at this
    · omega
    · omega
  · have hH := holdsK_sortWorldK An.cs 4 w g 0 n l.toArray d' os hg (an_holds hc hf) (by rw [hsz]; simp)
    have hl' : d'.toList.length = l.length := by simpa using hsz
    have hgw : g < (sortWorldK An.cs 4 w g 0 n d' os).heap.size := lt_sortWorldK An.cs 4 w g 0 n d' os hg
    refine ⟨⟨cellsA_len _, some ⟨g, 0, none⟩, g, 0, c, by rw [hl'], fun _ => ⟨rfl, hgw⟩, fun j u hu => by rw [Nat.zero_add]; exact an_cells hH j u hu⟩, Whole0.some _ _ _⟩
end Go.Proofs.YtihioekepflpiaaGreatDoor
namespace Go.Proofs.YtihioekepflpiaaGreatDoor
open Go.RowKit Bu
theorem rising_any (base : Nat) (T : TypeId) (v : Value) (l : List An) (w : World) (h : w.ownsRow base T 4 v l.length (cellsA l)) (hl : 0 < l.length) (hl2 : l.length ≤ 2000) :
    Calls Tryz.prog 23 #[v] w fun e w' => e = .returned v ∧ SortO v l w e w' := by
  have HS := Lib.hid (ansSort_any base T v l w h hl hl2)
  obtain ⟨a, g, c, rfl, _, _, _, _, _⟩ := own_formN h
  obtain ⟨n, hn⟩ : ∃ n, n = l.length := ⟨_, rfl⟩
  rw [← hn] at HS ⊢
  clear h hl hl2 hn
  go_enter Tryz.func23, Tryz.ntmps23
  go_wp2_with (go_at_call 44; refine HS.out.mono ?_; rintro e w1 ⟨rfl, hs⟩; have HO := Lib.hid hs; clear hs)
  go_ret
  obtain ⟨l', h1, h2, h3, h4⟩ := HO.out
  exact ⟨rfl, l', h1, h2, h3, h4⟩
theorem an_full : (Tryz.prog.info? 33).map (fun i => (i.zero, i.size, i.bytes)) = some (some (.agg #[.int .i64 0, .string ⟨#[]⟩, .int .i64 0, .int .i64 0]), 4, 40) := by kernel_rfl
set_option maxRecDepth 100000 in
set_option maxHeartbeats 2000000 in
theorem anClone_any (v : Value) (l : List An) (w : World) (hA : Ans w v l) (hl : l.length ≤ 2000) :
    Calls Tryz.prog 24 #[v] w fun e w' => ∃ v', e = .returned v' ∧ w'.ownsRow w.heap.size 33 4 v' l.length (cellsA l) ∧ w.grownBy w' none := by
  have HV := Lib.hid hA.1
  have HW := Lib.hid hA.2
  have HN := Lib.hid hl
  obtain ⟨a, g, o, c, rfl, ha, h0, _⟩ := hA.form
  have q22 : ∀ (w : World) (a : Option Addr) (n c n' c' : Nat), (binOp .eql 22 (.slice a n c) (.slice none n' c')).run Tryz.prog w = .ok (.bool a.isNone) w := fun w a n c n' c' => Lib.run_eql_slice_nil w _ _ a n c n' c' Tryz.underlying22
  cases a with
  | none =>
    have hl0 : l = [] := by
      rcases Nat.eq_zero_or_pos l.length with h | h
      · exact List.length_eq_zero_iff.1 h
      · have := (ha h).1; cases this
    subst hl0
    clear HV HW HN ha h0 hA hl
    go_enter Tryz.func24, Tryz.ntmps24
    go_wp2
    go_ret
    exact ⟨_, rfl, ⟨by simp [cellsA], .inl ⟨rfl, rfl⟩⟩, grown_refl _ _⟩
  | some p =>
    obtain ⟨n, hn⟩ : ∃ n, n = l.length := ⟨_, rfl⟩
    rw [← hn] at HV HW HN ⊢
    clear ha h0 hA hl hn
    go_enter Tryz.func24, Tryz.ntmps24
    go_wp2_with (at_builtin; refine wpList_appN3 (by rfl) (.tmp 5) (.tmp 6) 22 (by rfl) w.heap.size 33 (.agg #[.int .i64 0, .string ⟨#[]⟩, .int .i64 0, .int .i64 0]) 4 40 Tryz.underlying22 an_full rfl (by decide) (by decide) _ 0 [] (by rfl) (World.ownsRow_made w #[] 0 (Nat.le_refl _) (Nat.zero_le _) (by simp)) _ n (cellsA l) (by rfl) (HV.out.grown (World.grownBy_alloc _ _ _)) HW.out (cellsA_one l) (by have := HN.out; omega) (by simp) ?_; intro v1 w1 ho hg hb; have HO := Lib.hid ho; have HG := Lib.hid hg; clear ho hg hb)
    go_ret
    refine ⟨v1, rfl, by have := HO.out; simpa using this, ?_⟩
    exact grown_forget (World.grownBy_alloc _ _ _) (Nat.le_refl _) HG.out
set_option maxRecDepth 100000 in
theorem hasW_any (v : Value) (l : List An) (a : An) (p9 : Nat) (w : World) (hA : Ans w v l) (hp : w.heap[p9]? = some (.cells a.cs.toArray 33 (0, 0))) (hl : l.length ≤ 2000) :
    Calls Tryz.prog 20 #[v, .func (.func 21) #[] #[.pointer (some ⟨p9, 0, none⟩)]] w fun e w' => e = .returned (.bool (decide (0 ≤ ixB (qW a) l))) ∧ w.grownBy w' none := by
  have HI := Lib.hid (ixW_any v l a p9 w hA hp hl)
  clear hA hp hl
  generalize ixB (qW a) l = R at *
  go_enter Tryz.func20, Tryz.ntmps20
  go_wp2_with (go_at_call 27; refine HI.out.mono ?_; rintro e w1 ⟨rfl, hg⟩; have HG := Lib.hid hg; clear hg)
  go_ret
  exact ⟨by first | rfl | simp, HG.out⟩
end Go.Proofs.YtihioekepflpiaaGreatDoor
