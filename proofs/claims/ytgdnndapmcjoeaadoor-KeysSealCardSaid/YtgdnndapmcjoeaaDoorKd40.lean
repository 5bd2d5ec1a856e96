import Derived.Test.YtgdnndapmcjoeaaDoorKd04
import Derived.Test.YtgdnndapmcjoeaaDoorKd09
import Derived.Test.YtgdnndapmcjoeaaDoorKd39
namespace Go.Proofs.YtgdnndapmcjoeaaDoor
open Go.RowKit Go.Maps
set_option linter.unusedVariables false
theorem C1.base {w wr : World} {b b6 b7 j : Nat} (h : C1 w b b6 b7 j wr) : w.grownBy wr none := by obtain ⟨F, gs, hP, _⟩ := h; exact hP.base
structure Sg where
  key : Int
  dom : ByteArray
  msg : List Nat
def Sg.zero : Sg := ⟨0, ⟨#[]⟩, []⟩
theorem kStr {a b : ByteArray} (h : strL a = strL b) : a = b := by
  have := congrArg strOf h
  rwa [strOf_strL, strOf_strL] at this
theorem kBeq (a b : ByteArray) : decide (a = b) = (a.toList == b.toList) := by
  rw [str_beq, decide_eq_decide]
  exact ⟨fun h => by rw [h], kStr⟩
end Go.Proofs.YtgdnndapmcjoeaaDoor
namespace Go.Proofs.YtgdnndapmcjoeaaDoor
open Go.RowKit Go.Maps
set_option linter.unusedVariables false
def mt : ByteArray := ⟨#[]⟩
set_option maxRecDepth 100000 in
set_option maxHeartbeats 400000 in
theorem plain_none (A : Nat → Addr) (w : World) (hE : AllErrs w A) : Calls Tryd.prog 25 #[.string ⟨#[]⟩] w fun e w' => e = .returned (.tuple #[.slice none 0 0, errV A 8]) ∧ w.grownBy w' none := by
  have HE := Lib.hid (numErr_any A 8 (by decide) (by decide) w hE)
  clear hE
  go_enter Tryd.func25, Tryd.ntmps25
  go_wp2_with (go_at_call 39; refine HE.out.mono ?_; rintro e w1 ⟨rfl, hg1⟩; have G1 := Lib.hid hg1; clear hg1)
  go_returns
  exact ⟨rfl, G1.out⟩
set_option maxRecDepth 100000 in
set_option maxHeartbeats 400000 in
theorem plain_some (s : ByteArray) (hs : s ≠ mt) (w : World) : Calls Tryd.prog 25 #[.string s] w fun e w' => ∃ q c, e = .returned (.tuple #[.slice (some ⟨q, 0, none⟩) s.size c, .nilIface]) ∧ w.heap.size ≤ q ∧ Bytes w' (.slice (some ⟨q, 0, none⟩) s.size c) (strL s) ∧ Whole0 (.slice (some ⟨q, 0, none⟩) s.size c) ∧ w.grownBy w' none := by
  have hbe : (s.toList == (⟨#[]⟩ : ByteArray).toList) = false := by rw [← kBeq]; exact decide_eq_false hs
  have hbe2 : s.toList ≠ [] := fun h => hs (kStr (by
    have := str_beq s mt
    have h2 : mt.toList = [] := by decide +kernel
    rw [h, h2] at this
    exact of_decide_eq_true this.symm))
  have hbe3 : s.toList.isEmpty = false := by cases h : s.toList with | nil => exact absurd h hbe2 | cons _ _ => rfl
  obtain ⟨n, hn⟩ : ∃ n, n = s.size := ⟨_, rfl⟩
  have HN := Lib.hid hn
  rw [← hn]
  clear hs hn
  go_enter Tryd.func25, Tryd.ntmps25
  go_wp2_with (refine wpList_strBy (by rfl) 9 22 (.tmp 7) (by rfl) Tryd.underlying9 Tryd.underlying22 Tryd.underlying5 s (by rfl) ?_; intro c7 w7 hg7 hB7; rw [← HN.out] at hB7 ⊢; have HB7 := Lib.hid hB7; have HG7 := Lib.hid hg7; clear hg7 hB7)
  go_returns
  exact ⟨_, _, rfl, Nat.le_refl _, HB7.out, Whole0.some _ _ _, HG7.out⟩
set_option maxRecDepth 100000 in
set_option maxHeartbeats 400000 in
theorem message_none (A : Nat → Addr) (dom : ByteArray) (w : World) (hE : AllErrs w A) : Calls Tryd.prog 38 #[.agg #[.string dom, .string ⟨#[]⟩], .func (.func 25) #[] #[]] w fun e w' => e = .returned (.tuple #[.slice none 0 0, errV A 8]) ∧ w.grownBy w' none := by
  have HP := Lib.hid (fun W (h : w.grownBy W none) => plain_none A W (hE.grown h))
  have hfn : ∀ W, (binOp .eql 71 (.func (.func 25) #[] #[]) .nilFunc).run Tryd.prog W = .ok (.bool false) W := fun W => rfl
  clear hE
  go_enter Tryd.func38, Tryd.ntmps38
  go_wp2_with (go_at_call 25; refine (HP.out _ (World.grownBy_alloc _ _ _)).mono ?_; rintro e w1 ⟨rfl, hg1⟩; have G1 := Lib.hid (grown_of_alloc hg1); clear hg1)
  go_returns
  exact ⟨rfl, G1.out⟩
set_option maxRecDepth 100000 in
set_option maxHeartbeats 400000 in
theorem message_some (dom s : ByteArray) (hs : s ≠ mt) (w : World) : Calls Tryd.prog 38 #[.agg #[.string dom, .string s], .func (.func 25) #[] #[]] w fun e w' => ∃ q c, e = .returned (.tuple #[.slice (some ⟨q, 0, none⟩) s.size c, .nilIface]) ∧ w.heap.size ≤ q ∧ Bytes w' (.slice (some ⟨q, 0, none⟩) s.size c) (strL s) ∧ Whole0 (.slice (some ⟨q, 0, none⟩) s.size c) ∧ w.grownBy w' none := by
  have HP := Lib.hid (fun W => plain_some s hs W)
  obtain ⟨n, hn⟩ : ∃ n, n = s.size := ⟨_, rfl⟩
  rw [← hn] at HP ⊢
  have hfn : ∀ W, (binOp .eql 71 (.func (.func 25) #[] #[]) .nilFunc).run Tryd.prog W = .ok (.bool false) W := fun W => rfl
  clear hs hn
  go_enter Tryd.func38, Tryd.ntmps38
  go_wp2_with (go_at_call 25; refine (HP.out _).mono ?_; rintro e w1 ⟨a1, c1, rfl, hq1, hB1, h01, hg1⟩; have Q1 := Lib.hid hq1; clear hq1; have G1 := Lib.hid (grown_of_alloc hg1); have B1 := Lib.hid hB1; have H1 := Lib.hid h01; clear hg1 hB1 h01)
  go_returns
  exact ⟨_, _, rfl, by have := Q1.out; rw [alloc_size] at this; omega, B1.out, H1.out, G1.out⟩
set_option maxRecDepth 100000 in
set_option maxHeartbeats 400000 in
theorem seal_none (A : Nat → Addr) (b : Nat) (id dom : ByteArray) (w : World) (hE : AllErrs w A) : Calls Tryd.prog 24 #[.pointer (some ⟨b, 0, none⟩), .string id, .agg #[.string dom, .string ⟨#[]⟩], .func (.func 25) #[] #[]] w fun e w' => e = .returned (.tuple #[.slice none 0 0, errV A 8]) ∧ w.grownBy w' none := by
  have HP := Lib.hid (fun W (h : w.grownBy W none) => message_none A dom W (hE.grown h))
  clear hE
  go_enter Tryd.func24, Tryd.ntmps24
  go_wp2_with (go_at_call 38; refine (HP.out _ (World.grownBy_alloc _ _ _)).mono ?_; rintro e w1 ⟨rfl, hg1⟩; have G1 := Lib.hid (grown_of_alloc hg1); clear hg1)
  go_returns
  exact ⟨rfl, G1.out⟩
set_option maxRecDepth 100000 in
set_option maxHeartbeats 400000 in
theorem seal_some (b : Nat) (id dom s : ByteArray) (hs : s ≠ mt) (w : World) (er : Value) (R : World → Value → World → Prop)
    (hS : ∀ W a c, w.grownBy W none → w.heap.size ≤ a → Bytes W (.slice (some ⟨a, 0, none⟩) s.size c) (strL s) → Whole0 (.slice (some ⟨a, 0, none⟩) s.size c) → Calls Tryd.prog 19 #[.pointer (some ⟨b, 0, none⟩), .string id, .string dom, .slice (some ⟨a, 0, none⟩) s.size c] W fun e w' => ∃ x, e = .returned (.tuple #[x, er]) ∧ R W x w') :
    Calls Tryd.prog 24 #[.pointer (some ⟨b, 0, none⟩), .string id, .agg #[.string dom, .string s], .func (.func 25) #[] #[]] w fun e w' => ∃ W x, w.grownBy W none ∧ e = .returned (.tuple #[x, er]) ∧ R W x w' := by
  obtain ⟨w0, hw0⟩ : ∃ w0, w0 = w.alloc (.cells #[.string dom, .string s] 70) := ⟨_, rfl⟩
  have HW0 := Lib.hid hw0
  have HG0 : Hid (w.grownBy w0 none) := Lib.hid (by rw [hw0]; exact World.grownBy_alloc _ _ _)
  have HBx : Hid (w0.heap[w.heap.size]? = some (.cells #[.string dom, .string s] 70 (0, 0))) := Lib.hid (by rw [hw0]; exact alloc_at _ _)
  have HP := Lib.hid (message_some dom s hs w0)
  have HS := Lib.hid hS
  obtain ⟨n, hn⟩ : ∃ n, n = s.size := ⟨_, rfl⟩
  rw [← hn] at HP HS
  clear hs hn hS hw0
  go_enter Tryd.func24, Tryd.ntmps24
  go_wp2_with (first
    | (go_at_call 38; rw [← HW0.out]; refine HP.out.mono ?_; rintro e w1 ⟨a1, c1, rfl, hq1, hB1, h01, hg1⟩; have Q1 := Lib.hid (Nat.le_trans HG0.out.size hq1); clear hq1; have G1 := Lib.hid (grown_trans HG0.out hg1); have B1 := Lib.hid hB1; have H1 := Lib.hid h01; have f0 : w1.cell? ⟨w.heap.size, 0, none⟩ = some (.string dom) := cell_blk ((hg1.block _ (blk_lt HBx.out) (by simp)).trans HBx.out) 0 rfl; clear hg1 hB1 h01)
    | (go_at_call 19; refine (HS.out w1 a1 c1 G1.out Q1.out B1.out H1.out).mono ?_; rintro e w2 ⟨x, rfl, hR⟩; have HR := Lib.hid hR; clear hR))
  go_returns
  exact ⟨w1, x, G1.out, rfl, HR.out⟩
set_option maxRecDepth 100000 in
set_option maxHeartbeats 400000 in
theorem open_some (b : Nat) (id dom s : ByteArray) (hs : s ≠ mt) (sv : Value) (w : World) (er : Value) (R : World → World → Prop)
    (hS : ∀ W a c, w.grownBy W none → w.heap.size ≤ a → Bytes W (.slice (some ⟨a, 0, none⟩) s.size c) (strL s) → Whole0 (.slice (some ⟨a, 0, none⟩) s.size c) → Calls Tryd.prog 21 #[.pointer (some ⟨b, 0, none⟩), .string id, .string dom, .slice (some ⟨a, 0, none⟩) s.size c, sv] W fun e w' => e = .returned er ∧ R W w') :
    Calls Tryd.prog 27 #[.pointer (some ⟨b, 0, none⟩), .string id, .agg #[.string dom, .string s], sv, .func (.func 25) #[] #[]] w fun e w' => ∃ W, w.grownBy W none ∧ e = .returned er ∧ R W w' := by
  obtain ⟨w0, hw0⟩ : ∃ w0, w0 = w.alloc (.cells #[.string dom, .string s] 70) := ⟨_, rfl⟩
  have HW0 := Lib.hid hw0
  have HG0 : Hid (w.grownBy w0 none) := Lib.hid (by rw [hw0]; exact World.grownBy_alloc _ _ _)
  have HBx : Hid (w0.heap[w.heap.size]? = some (.cells #[.string dom, .string s] 70 (0, 0))) := Lib.hid (by rw [hw0]; exact alloc_at _ _)
  have HP := Lib.hid (message_some dom s hs w0)
  have HS := Lib.hid hS
  obtain ⟨n, hn⟩ : ∃ n, n = s.size := ⟨_, rfl⟩
  rw [← hn] at HP HS
  clear hs hn hS hw0
  go_enter Tryd.func27, Tryd.ntmps27
  go_wp2_with (first
    | (go_at_call 38; rw [← HW0.out]; refine HP.out.mono ?_; rintro e w1 ⟨a1, c1, rfl, hq1, hB1, h01, hg1⟩; have Q1 := Lib.hid (Nat.le_trans HG0.out.size hq1); clear hq1; have G1 := Lib.hid (grown_trans HG0.out hg1); have B1 := Lib.hid hB1; have H1 := Lib.hid h01; have f0 : w1.cell? ⟨w.heap.size, 0, none⟩ = some (.string dom) := cell_blk ((hg1.block _ (blk_lt HBx.out) (by simp)).trans HBx.out) 0 rfl; clear hg1 hB1 h01)
    | (go_at_call 21; refine (HS.out w1 a1 c1 G1.out Q1.out B1.out H1.out).mono ?_; rintro e w2 ⟨rfl, hR⟩; have HR := Lib.hid hR; clear hR))
  go_ret
  exact ⟨w1, G1.out, rfl, HR.out⟩
end Go.Proofs.YtgdnndapmcjoeaaDoor
namespace Go.Proofs.YtgdnndapmcjoeaaDoor
open Go.RowKit Go.Maps
set_option linter.unusedVariables false
def k0 : ByteArray × List Nat := (⟨#[]⟩, [])
/-- Keys, one behind the other. -/
def KeysV (w : World) (v : Value) (ks : List (ByteArray × List Nat)) : Prop :=
  ∃ (a : Option Addr) (g o c : Nat), v = .slice a ks.length c ∧ (0 < ks.length → a = some ⟨g, o, none⟩ ∧ g < w.heap.size) ∧ ∀ j, j < ks.length → ∃ y, w.cell? ⟨g, o + j * 2, none⟩ = some (.string (ks.getD j k0).1) ∧ w.cell? ⟨g, o + j * 2 + 1, none⟩ = some y ∧ Bytes w y (ks.getD j k0).2 ∧ Whole0 y
theorem KeysV.grown {w w' : World} {v : Value} {ks : List (ByteArray × List Nat)} (h : KeysV w v ks) (hg : w.grownBy w' none) : KeysV w' v ks := by
  obtain ⟨a, g, o, c, h1, h2, h3⟩ := h
  refine ⟨a, g, o, c, h1, fun h => ⟨(h2 h).1, Nat.lt_of_lt_of_le (h2 h).2 hg.size⟩, fun j hj => ?_⟩
  obtain ⟨y, e1, e2, e3, e4⟩ := h3 j hj
  have e : ∀ o, w'.cell? ⟨g, o, none⟩ = w.cell? ⟨g, o, none⟩ := fun o => World.cell?_of_block (hg.block g (h2 (by omega)).2 (by simp))
  exact ⟨y, by rw [e]; exact e1, by rw [e]; exact e2, e3.grown hg, e4⟩
/-- The key of a number, the first of it. -/
def fd (ks : List (ByteArray × List Nat)) (id : ByteArray) : Option (List Nat) := (ks.find? (fun p => decide (p.1 = id))).map (·.2)
theorem fd_at {ks : List (ByteArray × List Nat)} {id : ByteArray} {j : Nat} (hj : j < ks.length) (h : (ks.getD j k0).1 = id) (hn : ∀ q, q < j → (ks.getD q k0).1 ≠ id) : fd ks id = some (ks.getD j k0).2 := by
  induction ks generalizing j with
  | nil => simp at hj
  | cons p r ih =>
    unfold fd
    cases j with
    | zero => rw [List.find?_cons_of_pos (by simpa using h)]; rfl
    | succ j =>
      have h0 := hn 0 (by omega)
      rw [List.find?_cons_of_neg (by simpa using h0)]
      exact ih (j := j) (by simpa using hj) (by simpa using h) (fun q hq => by simpa using hn (q + 1) (by omega))
theorem fd_none {ks : List (ByteArray × List Nat)} {id : ByteArray} (hn : ∀ q, q < ks.length → (ks.getD q k0).1 ≠ id) : fd ks id = none := by
  unfold fd
  rw [Option.map_eq_none_iff, List.find?_eq_none]
  intro p hp
  obtain ⟨i, hi, rfl⟩ := List.getElem_of_mem hp
  have := hn i hi
  rw [List.getD_eq_getElem?_getD, List.getElem?_eq_getElem hi] at this
  simpa using this
/-- What find answers. -/
def FdPost (w w' : World) (r : Option (List Nat)) (e : Ending) : Prop :=
  w.grownBy w' none ∧ match r with
    | none => e = .returned (.tuple #[.slice none 0 0, .bool false])
    | some k => ∃ y, e = .returned (.tuple #[y, .bool true]) ∧ Bytes w y k ∧ Whole0 y
set_option maxRecDepth 100000 in
set_option maxHeartbeats 1000000 in
theorem find_any (w : World) (b : Nat) (kv bv : Value) (ks : List (ByteArray × List Nat)) (id : ByteArray) (hb : w.heap[b]? = some (.cells #[kv, bv] 43 (0, 0))) (hK : KeysV w kv ks) (hl : ks.length ≤ 9223372036854775807) :
    Calls Tryd.prog 37 #[.pointer (some ⟨b, 0, none⟩), .string id] w fun e w' => FdPost w w' (fd ks id) e := by
  have c0 := cell_blk hb 0 rfl
  obtain ⟨a, g, o, c, rfl, h2, h3⟩ := hK
  obtain ⟨n, hn⟩ : ∃ n, n = ks.length := ⟨_, rfl⟩
  rw [← hn] at hl c0 h2
  have HN := Lib.hid hn
  have H2 := Lib.hid h2
  have H3 := Lib.hid h3
  obtain ⟨R, hR⟩ : ∃ R, R = fd ks id := ⟨_, rfl⟩
  have HR := Lib.hid hR
  rw [← hR]
  clear hb hn h2 h3 hR
  go_enter Tryd.func37, Tryd.ntmps37
  go_wp2
  go_loopw [13] (fun i wr => ∃ j : Nat, j ≤ n ∧ i = .int .i64 j ∧ w.grownBy wr none ∧ Hid (∀ q, q < j → (ks.getD q k0).1 ≠ id)) (fun i _ => n - (intOf i).toNat)
  case atStart => exact ⟨0, by omega, rfl, grown_refl _ _, Lib.hid (fun q hq => absurd hq (Nat.not_lt_zero _))⟩
  case round =>
    obtain ⟨j, hj, rfl, hg, hq⟩ := hrel
    have HG := Lib.hid hg
    by_cases hjn : j < n
    · obtain ⟨rfl, hgl⟩ := H2.out (by omega)
      obtain ⟨y, e0, e1, e2, e3⟩ := H3.out j (by rw [← HN.out]; exact hjn)
      have eg : ∀ o, wr.cell? ⟨g, o, none⟩ = w.cell? ⟨g, o, none⟩ := fun o => World.cell?_of_block (hg.block g hgl (by simp))
      have HB := Lib.hid e2
      have H0 := Lib.hid e3
      obtain ⟨_, ya, _, _, yc, rfl, _⟩ := e2
      rw [← eg] at e0 e1
      obtain ⟨I, hI⟩ : ∃ I, I = (ks.getD j k0).1 := ⟨_, rfl⟩
      obtain ⟨yl, hyl⟩ : ∃ yl, yl = (ks.getD j k0).2.length := ⟨_, rfl⟩
      rw [← hI] at e0
      rw [← hyl] at e1 HB H0
      have hgw : g < wr.heap.size := Nat.lt_of_lt_of_le hgl hg.size
      have HI := Lib.hid hI
      have HYl := Lib.hid hyl
      clear eg e3 hI hyl hg
      by_cases hid : I = id
      · subst hid
        have hbe : (I.toList == I.toList) = true := beq_self_eq_true _
        go_wp2
        go_returns
        refine ⟨grown_trans HG.out (World.grownBy_alloc _ _ _), ?_⟩
        rw [HR.out, fd_at (by rw [← HN.out]; exact hjn) HI.out.symm hq.out]
        exact ⟨_, rfl, HB.out, H0.out⟩
      · have hbe : (I.toList == id.toList) = false := by rw [← kBeq]; exact decide_eq_false hid
        have HId := Lib.hid hid
        go_wp2
        go_roundw
        case rel => exact ⟨j + 1, by omega, by go_num, grown_trans HG.out (World.grownBy_alloc _ _ _), Lib.hid (fun q hq' => by
          by_cases e : q = j
          · subst e; rw [← HI.out]; exact HId.out
          · exact hq.out q (by omega))⟩
        case measure => simp [intOf]; omega
    · obtain rfl : j = n := by omega
      clear hjn
      go_wp2
      go_returns
      refine ⟨HG.out, ?_⟩
      rw [HR.out, fd_none (fun q hq' => hq.out q (by rw [HN.out]; exact hq'))]
      rfl
set_option maxRecDepth 100000 in
set_option maxHeartbeats 400000 in
theorem refHas_any (w : World) (b : Nat) (kv bv : Value) (ks : List (ByteArray × List Nat)) (id : ByteArray) (hb : w.heap[b]? = some (.cells #[kv, bv] 43 (0, 0))) (hK : KeysV w kv ks) (hl : ks.length ≤ 9223372036854775807) :
    Calls Tryd.prog 52 #[.pointer (some ⟨b, 0, none⟩), .string id] w fun e w' => e = .returned (.bool (fd ks id).isSome) ∧ w.grownBy w' none := by
  have hF := find_any w b kv bv ks id hb hK hl
  clear hb hK hl
  cases hr : fd ks id with
  | none =>
    rw [hr] at hF
    have HF := Lib.hid hF
    clear hF hr
    go_enter Tryd.func52, Tryd.ntmps52
    go_wp2_with (go_at_call 37; refine HF.out.mono ?_; rintro e w1 ⟨hg1, he⟩; obtain rfl := he; have G1 := Lib.hid hg1; clear hg1)
    go_ret
    exact ⟨rfl, G1.out⟩
  | some k =>
    rw [hr] at hF
    have HF := Lib.hid hF
    clear hF hr
    go_enter Tryd.func52, Tryd.ntmps52
    go_wp2_with (go_at_call 37; refine HF.out.mono ?_; rintro e w1 ⟨hg1, y, rfl, _, _⟩; have G1 := Lib.hid hg1; clear hg1)
    go_ret
    exact ⟨rfl, G1.out⟩
/-- What is asked of a key and a domain: the error's number. -/
def askE (ks : List (ByteArray × List Nat)) (id dom : ByteArray) (m : List Nat) : Nat := if fd ks id = none then 10 else fErr (strL dom) [m]
set_option maxRecDepth 100000 in
set_option maxHeartbeats 400000 in
theorem asked_any (w : World) (b : Nat) (kv bv : Value) (ks : List (ByteArray × List Nat)) (id dom : ByteArray) (hd : dom.size ≤ 1000) (va : Option Addr) (n vc : Nat) (m : List Nat) (hB : Bytes w (.slice va n vc) m) (hB0 : Whole0 (.slice va n vc)) (hb : w.heap[b]? = some (.cells #[kv, bv] 43 (0, 0))) (hK : KeysV w kv ks) (hl : ks.length ≤ 9223372036854775807) :
    Calls Tryd.prog 40 #[.pointer (some ⟨b, 0, none⟩), .string id, .string dom, .slice va n vc] w fun e w' => e = .returned (.int .i64 (askE ks id dom m : Nat)) ∧ w.grownBy w' none := by
  have hH := refHas_any w b kv bv ks id hb hK hl
  unfold askE
  cases hr : fd ks id with
  | none =>
    rw [hr] at hH
    have HH := Lib.hid hH
    rw [if_pos rfl]
    clear hH hr hb hK hl hB hB0
    go_enter Tryd.func40, Tryd.ntmps40
    go_wp2_with (go_at_call 52; refine HH.out.mono ?_; rintro e w1 ⟨rfl, hg1⟩; have G1 := Lib.hid hg1; clear hg1)
    go_ret
    exact ⟨rfl, G1.out⟩
  | some k =>
    rw [hr] at hH
    have HH := Lib.hid hH
    rw [if_neg (by simp)]
    obtain ⟨N, hN⟩ : ∃ N, N = fErr (strL dom) [m] := ⟨_, rfl⟩
    have HFr : Hid (∀ W g, w.grownBy W none → W.heap[g]? = some (.cells #[.slice va n vc] 22 (0, 0)) → Calls Tryd.prog 20 #[.string dom, .slice (some ⟨g, 0, none⟩) 1 1] W fun e w' => (∃ fa fn fc, e = .returned (.tuple #[.slice fa fn fc, .int .i64 (N : Int)])) ∧ W.grownBy w' none) := Lib.hid (fun W g hW hg => by
      by_cases hf : fErr (strL dom) [m] = 0
      · rw [hN, hf]
        exact (kFrame0 dom hd hg (hB.grown hW) hB0 hf).mono (fun e w' ⟨fa, fn, fc, h1, h2⟩ => ⟨⟨fa, fn, fc, h1⟩, h2⟩)
      · rw [hN]
        exact (kFrame1 dom hd hg (hB.grown hW) hB0 hf).mono (fun e w' ⟨h1, h2⟩ => ⟨⟨_, _, _, h1⟩, h2⟩))
    rw [← hN]
    clear hH hr hb hK hl hB hB0 hN
    go_enter Tryd.func40, Tryd.ntmps40
    go_wp2_with (first
      | (go_at_call 52; refine HH.out.mono ?_; rintro e w1 ⟨rfl, hg1⟩; have G1 := Lib.hid hg1; clear hg1)
      | (go_at_call 20; refine (HFr.out _ w1.heap.size (grown_alloc G1.out _) (alloc_at _ _)).mono ?_; rintro e w2 ⟨⟨fa, fn, fc, rfl⟩, hg2⟩; have G2 := Lib.hid (grown_trans (grown_alloc G1.out _) hg2); clear hg2))
    go_ret
    exact ⟨rfl, G2.out⟩
end Go.Proofs.YtgdnndapmcjoeaaDoor
