import Derived.Test.YtihioekepflpiaaGreatDoorZb00
import Derived.Test.YtihioekepflpiaaGreatDoorZb01
import Derived.Test.YtihioekepflpiaaGreatDoorZb02
import Derived.Test.YtihioekepflpiaaGreatDoorZb05
import Derived.Test.YtihioekepflpiaaGreatDoorZb15
import Derived.Test.YtihioekepflpiaaGreatDoorZb18
import Derived.Test.YtihioekepflpiaaGreatDoorZb19
import Derived.Test.YtihioekepflpiaaGreatDoorZb24
import Derived.Test.YtihioekepflpiaaGreatDoorZb25
import Derived.Test.YtihioekepflpiaaGreatDoorZb26
import Derived.Test.YtihioekepflpiaaGreatDoorZb30
import Derived.Test.YtihioekepflpiaaGreatDoorZb31
import Derived.Test.YtihioekepflpiaaGreatDoorZb37
import Derived.Test.YtihioekepflpiaaGreatDoorChecked
import Derived.WalkKit
import Derived.Lib.Hide
import Derived.BigQuiet
set_option linter.unusedVariables false
set_option linter.unusedSimpArgs false
namespace Go.Proofs.YtihioekepflpiaaGreatDoor
open Go.RowKit
theorem mkFn (fn : Fn) (first cap : Array Value) (w : World) : (Instr.makeFunc fn first cap).run Tryz.prog w = .ok (.func fn first cap) w := rfl
theorem ctext_of {t : Int} (h : ¬ (t < 0 ∨ 253402300799 < t)) : ∀ x ∈ Cal.text (Cal.of t.toNat), x < 256 := De.ctext_lt (Cal.of_right (t := t.toNat) (by omega)).1
theorem asked_pos {l : List Nat} {m : Int} (h : Pt.asked l m = 0) : 0 < l.length := by
  unfold Pt.asked at h
  by_cases h0 : l.length = 0
  · rw [if_pos h0] at h; exact absurd h (by decide)
  · omega
/-- A plain value's step. -/
theorem step_putR {s : De.St} {v : De.Val} {t : Nat} {r : Except Nat (List Nat)} (h1 : v.kind ≠ 1) (h2 : v.kind ≠ 2) (h11 : v.kind ≠ 11) (hb : De.body v = match r with
    | .ok l => .ok (t, l)
    | .error k => .error k) : De.step s v = if s.e = 0 then putR s t r else s := by
  unfold De.step
  by_cases he : s.e = 0
  · rw [if_pos he, if_neg (fun h => h he), if_neg h1, if_neg h2, if_neg h11]
    unfold De.plainV
    rw [hb]
    cases r <;> rfl
  · rw [if_neg he, if_pos he]
/-- What is asked of the packages whose bodies are written, from a world on. -/
structure BodiesOf (A : Nat → Addr) (w : World) : Prop where
  errs : AllErrs w A
  texts : TxPut A w
  moment : MoPut A w
theorem enters_any {f : FuncId} {fn : Func} {c : Code} (hf : Tryz.prog.funcs[f]? = some fn) (hname : (fn.name == "runtime.NumGoroutine") = false) (hb : fn.body = some c) : ∀ args w, (callFunc f args).run Tryz.prog w = .ok (.enter f args) w := enters_of hf hname hb
set_option maxRecDepth 100000 in
theorem sure_int (g : Nat) (w : World) : Calls Tryz.prog 55 #[.func (.func g) #[] #[]] w fun e w' => e = .returned (.func (.func 78) #[] #[.pointer (some ⟨w.heap.size, 0, none⟩)]) ∧ w' = w.alloc (.cells #[.func (.func g) #[] #[]] 101) := by
  have hmf := mkFn
  go_enter Tryz.func55, Tryz.ntmps55
  go_wp2
  go_ret
  exact ⟨rfl, rfl⟩
set_option maxRecDepth 100000 in
theorem sureClo_int (A : Nat → Addr) (g bx : Nat) (x : Int) (l : List Nat) (w : World) (hx : w.cell? ⟨bx, 0, none⟩ = some (.func (.func g) #[] #[])) (hen : ∀ args w, (callFunc g args).run Tryz.prog w = .ok (.enter g args) w)
    (hB : Calls Tryz.prog g #[.int .i64 x] w fun e w' => ∃ a c, e = .returned (.slice a l.length c) ∧ w.grownBy w' none ∧ Bytes w' (.slice a l.length c) l ∧ Whole0 (.slice a l.length c)) :
    Calls Tryz.prog 78 #[.int .i64 x, .pointer (some ⟨bx, 0, none⟩)] w fun e w' => BodyPost A w w' (.ok l) e := by
  have HB := Lib.hid hB
  obtain ⟨n, hn⟩ : ∃ n, n = l.length := ⟨_, rfl⟩
  clear hB
  go_enter Tryz.func78, Tryz.ntmps78
  go_wp2_with ((with_reducible refine HB.out.mono ?_); rintro e w2 ⟨a, c, rfl, hg2, hb2, h02⟩; have HG2 := Lib.hid hg2; have HB2 := Lib.hid hb2; have H02 := Lib.hid h02; clear hg2 hb2 h02)
  go_ret2
  exact ⟨HG2.out, _, _, rfl, HB2.out, H02.out⟩
set_option maxRecDepth 100000 in
set_option maxHeartbeats 1000000 in
theorem prInt_any {A : Nat → Addr} {W0 w : World} {F : Nat → Prop} {b : Nat} {s : De.St} (h : PrW A W0 F b s w) (hA : BodiesOf A W0) (hl : Lim 1000 s) (v : De.Val) (hk : v.kind = 3) (hn : De.I64 v.n) :
    Calls Tryz.prog 35 #[.pointer (some ⟨b, 0, none⟩), .int .i64 v.n] w fun e w' => PrPost A W0 F b w w' (De.step s v) e := by
  have hmf := mkFn
  have HX := Lib.hid h
  obtain ⟨h1, h2⟩ := hn
  have hst : De.step s v = if s.e = 0 then putR s 2 (.ok (Wh.body v.n)) else s := step_putR (by omega) (by omega) (by omega) (by unfold De.body; rw [if_pos hk])
  have HS := Lib.hid (sure_int 56 w)
  have hlen : (Wh.body v.n).length ≤ 1000 := by have := Wh.body_len v.n; omega
  have HW : Hid (∀ W, W = w.alloc (.cells #[.func (.func 56) #[] #[]] 101) → Calls Tryz.prog 54 #[.pointer (some ⟨b, 0, none⟩), .int .i64 2, .int .i64 v.n, .func (.func 78) #[] #[.pointer (some ⟨w.heap.size, 0, none⟩)]] W fun e w' => PrPost A W0 F b w w' (De.step s v) e) := Lib.hid (fun W hW => by
    rw [hst]
    subst hW
    have hga := World.grownBy_alloc w (.cells #[.func (.func 56) #[] #[]] 101) none
    refine (prWrite_int (HX.out.grow hga) hA.errs hl 2 (by decide) _ 78 #[.pointer (some ⟨w.heap.size, 0, none⟩)] (.ok (Wh.body v.n)) ⟨by omega, Wh.body_lt v.n⟩ (enters_any Tryz.func78 (by kernel_rfl) rfl) (fun W2 hg2 => ?_)).mono (fun e w' hp => HX.out.after hga hp)
    refine sureClo_int A 56 w.heap.size _ _ W2 ((World.cell?_of_block (hg2.block w.heap.size (by rw [alloc_size]; omega) (by simp))).trans (cell_blk (alloc_at _ _) 0 rfl)) (enters_any Tryz.func56 (by kernel_rfl) rfl) ((put_any v.n h1 h2 W2).mono (fun e w' hp => ⟨_, _, hp.1, hp.2.1, hp.2.2, Whole0.some _ _ _⟩)))
  clear h hst hl hlen hA
  go_enter Tryz.func35, Tryz.ntmps35
  go_wp2_with (first
    | (go_at_call 55; refine HS.out.mono ?_; rintro e w2 ⟨rfl, hw2⟩; have HW2 := Lib.hid hw2; clear hw2)
    | (go_at_call 54; refine (HW.out _ HW2.out).mono ?_; rintro e w3 ⟨rfl, k1, k2⟩; have K1 := Lib.hid k1; have K2 := Lib.hid k2; clear k1 k2))
  go_returns
  exact ⟨rfl, K1.out, K2.out⟩
set_option maxRecDepth 100000 in
set_option maxHeartbeats 1000000 in
theorem prMoment_any {A : Nat → Addr} {W0 w : World} {F : Nat → Prop} {b : Nat} {s : De.St} (h : PrW A W0 F b s w) (hA : BodiesOf A W0) (hl : Lim 1000 s) (v : De.Val) (hk : v.kind = 9) (hn : De.I64 v.n) :
    Calls Tryz.prog 41 #[.pointer (some ⟨b, 0, none⟩), .int .i64 v.n] w fun e w' => PrPost A W0 F b w w' (De.step s v) e := by
  have HX := Lib.hid h
  obtain ⟨R, hR⟩ : ∃ R : Except Nat (List Nat), R = if v.n < 0 ∨ 253402300799 < v.n then .error 1 else .ok (Cal.text (Cal.of v.n.toNat)) := ⟨_, rfl⟩
  have hst : De.step s v = if s.e = 0 then putR s 24 R else s := step_putR (by omega) (by omega) (by omega) (by rw [hR]; unfold De.body; rw [if_neg (by omega), if_neg (by omega), if_neg (by omega), if_neg (by omega), if_neg (by omega), if_neg (by omega), if_pos hk]; split <;> rfl)
  have HW : Hid (Calls Tryz.prog 54 #[.pointer (some ⟨b, 0, none⟩), .int .i64 24, .int .i64 v.n, .func (.func 63) #[] #[]] w fun e w' => PrPost A W0 F b w w' (De.step s v) e) := Lib.hid (by
    rw [hst]
    refine prWrite_int HX.out hA.errs hl 24 (by decide) _ 63 #[] R ?_ (enters_any Tryz.func63 (by kernel_rfl) rfl) (fun W2 hg2 => ?_)
    · rw [hR]
      split
      · exact (by decide : (1 : Nat) ≠ 0)
      · rename_i hm
        exact ⟨by rw [Cal.text_len]; decide, ctext_of (by omega)⟩
    · rw [hR]
      have hq := hA.moment v.n W2 hn (grown_trans HX.out.base hg2)
      refine hq.mono (fun e w' hp => ?_)
      obtain ⟨g1, g2⟩ := hp
      refine ⟨g1, ?_⟩
      by_cases hm : v.n < 0 ∨ 253402300799 < v.n
      · rw [if_pos hm]
        rw [if_neg (by unfold isM; omega)] at g2
        obtain ⟨a, c, g3⟩ := g2
        exact ⟨_, g3⟩
      · rw [if_neg hm]
        rw [if_pos (by unfold isM; omega)] at g2
        obtain ⟨a, c, g3, g4⟩ := g2
        have hlen : (Cal.text (Cal.of v.n.toNat)).length = 15 := Cal.text_len _
        show ∃ a c, e = .returned (.tuple #[.slice a (Cal.text (Cal.of v.n.toNat)).length c, .nilIface]) ∧ _
        rw [hlen]
        exact ⟨a, c, g3, g4, whole_pos g4 (by rw [hlen]; decide)⟩)
  clear h hst hl hA hR
  go_enter Tryz.func41, Tryz.ntmps41
  go_wp2_with (go_at_call 54; refine HW.out.mono ?_; rintro e w3 ⟨rfl, k1, k2⟩; have K1 := Lib.hid k1; have K2 := Lib.hid k2; clear k1 k2)
  go_returns
  exact ⟨rfl, K1.out, K2.out⟩
set_option maxRecDepth 100000 in
theorem octClo (A : Nat → Addr) (a : Option Addr) (n c : Nat) (l : List Nat) (w : World) (hB : Bytes w (.slice a n c) l) (h0 : Whole0 (.slice a n c)) : Calls Tryz.prog 62 #[.slice a n c] w fun e w' => BodyPost A w w' (.ok l) e := by
  have hn : n = l.length := (hB.cap).1
  subst hn
  have HB := Lib.hid hB
  have H0 := Lib.hid h0
  obtain ⟨n, hn⟩ : ∃ n, n = l.length := ⟨_, rfl⟩
  have HR : Hid (∀ e, e = .returned (.tuple #[.slice a n c, .nilIface]) → BodyPost A w w (.ok l) e) := Lib.hid (fun e he => by subst hn; exact ⟨grown_refl _ _, a, c, he, HB.out, H0.out⟩)
  rw [← hn]
  clear hB h0 hn HB H0
  go_enter Tryz.func62, Tryz.ntmps62
  go_wp2
  go_ret2
  exact HR.out _ rfl
set_option maxRecDepth 100000 in
set_option maxHeartbeats 1000000 in
theorem prOctets_any {A : Nat → Addr} {W0 w : World} {F : Nat → Prop} {b : Nat} {s : De.St} (h : PrW A W0 F b s w) (hA : BodiesOf A W0) (hl : Lim 1000 s) (v : De.Val) (hk : v.kind = 6) (xa : Option Addr) (xn xc : Nat) (hb : Bytes w (.slice xa xn xc) v.b) (h0 : Whole0 (.slice xa xn xc)) (hlen : v.b.length ≤ 1000000) :
    Calls Tryz.prog 40 #[.pointer (some ⟨b, 0, none⟩), .slice xa xn xc] w fun e w' => PrPost A W0 F b w w' (De.step s v) e := by
  have HX := Lib.hid h
  obtain ⟨R, hR⟩ : ∃ R : Except Nat (List Nat), R = .ok v.b := ⟨_, rfl⟩
  have hst : De.step s v = if s.e = 0 then putR s 4 R else s := step_putR (by omega) (by omega) (by omega) (by rw [hR]; unfold De.body; rw [if_neg (by omega), if_neg (by omega), if_neg (by omega), if_pos hk])
  have HW : Hid (Calls Tryz.prog 61 #[.pointer (some ⟨b, 0, none⟩), .int .i64 4, .slice xa xn xc, .func (.func 62) #[] #[]] w fun e w' => PrPost A W0 F b w w' (De.step s v) e) := Lib.hid (by
    rw [hst]
    refine prWrite_bytes HX.out hA.errs hl 4 (by decide) _ _ _ 62 #[] R ?_ (enters_any Tryz.func62 (by kernel_rfl) rfl) (fun W2 hg2 => ?_)
    · rw [hR]
      exact ⟨by omega, hb.lt⟩
    · rw [hR]
      exact octClo A xa xn xc v.b W2 (hb.grown hg2) h0)
  clear h hst hl hA hR
  go_enter Tryz.func40, Tryz.ntmps40
  go_wp2_with (go_at_call 61; refine HW.out.mono ?_; rintro e w3 ⟨rfl, k1, k2⟩; have K1 := Lib.hid k1; have K2 := Lib.hid k2; clear k1 k2)
  go_returns
  exact ⟨rfl, K1.out, K2.out⟩
set_option maxRecDepth 100000 in
set_option maxHeartbeats 1000000 in
theorem textClo (A : Nat → Addr) (W0 : World) (hA : BodiesOf A W0) (bx : Nat) (S : ByteArray) (m : Int) (hm : De.I64 m) (w : World) (hw : W0.grownBy w none) (hx : w.cell? ⟨bx, 0, none⟩ = some (.int .i64 m)) (hz : S.size ≤ 1000) :
    Calls Tryz.prog 58 #[.string S, .pointer (some ⟨bx, 0, none⟩)] w fun e w' => BodyPost A w w' (if Pt.asked (strL S) m = 0 then .ok (strL S) else .error (Pt.asked (strL S) m)) e := by
  obtain ⟨R, hR⟩ : ∃ R : Except Nat (List Nat), R = if Pt.asked (strL S) m = 0 then .ok (strL S) else .error (Pt.asked (strL S) m) := ⟨_, rfl⟩
  rw [← hR]
  have HP : Hid (Calls Tryz.prog 59 #[.string S, .int .i64 m] w fun e w' => ∃ x y, e = .returned (.tuple #[x, y]) ∧ BodyPost A w w' R (.returned (.tuple #[x, y]))) := Lib.hid ((hA.texts S m w hz hm hw).mono (fun e w' hp => by
    rw [hR]
    obtain ⟨g1, g2⟩ := hp
    by_cases ha : Pt.asked (strL S) m = 0
    · rw [if_pos ha] at g2
      obtain ⟨a, c, g3, g4⟩ := g2
      refine ⟨_, _, g3, g1, ?_⟩
      rw [if_pos ha]
      have hz2 : S.size = (strL S).length := (strL_len S).symm
      rw [hz2] at g3 g4 ⊢
      exact ⟨a, c, rfl, g4, whole_pos g4 (asked_pos ha)⟩
    · rw [if_neg ha] at g2
      obtain ⟨a, c, g3⟩ := g2
      refine ⟨_, _, g3, g1, ?_⟩
      rw [if_neg ha]
      exact ⟨_, rfl⟩))
  clear hA hm hw hR
  go_enter Tryz.func58, Tryz.ntmps58
  go_wp2_with (go_at_call 59; refine HP.out.mono ?_; rintro e w2 ⟨x, y, rfl, hp⟩; have HQ := Lib.hid hp; clear hp)
  go_ret2
  exact HQ.out
set_option maxRecDepth 100000 in
set_option maxHeartbeats 1000000 in
theorem prText_any {A : Nat → Addr} {W0 w : World} {F : Nat → Prop} {b : Nat} {s : De.St} (h : PrW A W0 F b s w) (hA : BodiesOf A W0) (hl : Lim 1000 s) (v : De.Val) (hk : v.kind = 7) (hn : De.I64 v.n) (S : ByteArray) (hS : strL S = v.t) (hz : S.size ≤ 1000) :
    Calls Tryz.prog 36 #[.pointer (some ⟨b, 0, none⟩), .string S, .int .i64 v.n] w fun e w' => PrPost A W0 F b w w' (De.step s v) e := by
  have hmf := mkFn
  have HX := Lib.hid h
  obtain ⟨R, hR⟩ : ∃ R : Except Nat (List Nat), R = if Pt.asked (strL S) v.n = 0 then .ok (strL S) else .error (Pt.asked (strL S) v.n) := ⟨_, rfl⟩
  have hst : De.step s v = if s.e = 0 then putR s 12 R else s := step_putR (by omega) (by omega) (by omega) (by
    rw [hR, hS]; unfold De.body; rw [if_neg (by omega), if_neg (by omega), if_neg (by omega), if_neg (by omega), if_pos hk]; split <;> rfl)
  have HW : Hid (∀ W, W = w.alloc (.cells #[.int .i64 v.n] 3) → Calls Tryz.prog 57 #[.pointer (some ⟨b, 0, none⟩), .int .i64 12, .string S, .func (.func 58) #[] #[.pointer (some ⟨w.heap.size, 0, none⟩)]] W fun e w' => PrPost A W0 F b w w' (De.step s v) e) := Lib.hid (fun W hW => by
    rw [hst]
    subst hW
    have hga := World.grownBy_alloc w (.cells #[.int .i64 v.n] 3) none
    refine (prWrite_str (HX.out.grow hga) hA.errs hl 12 (by decide) _ 58 #[.pointer (some ⟨w.heap.size, 0, none⟩)] R ?_ (enters_any Tryz.func58 (by kernel_rfl) rfl) (fun W2 hg2 => ?_)).mono (fun e w' hp => HX.out.after hga hp)
    · rw [hR]
      split
      · exact ⟨by rw [strL_len]; omega, strL_lt S⟩
      · assumption
    · rw [hR]
      exact textClo A W0 hA w.heap.size S v.n hn W2 (grown_trans HX.out.base (grown_trans hga hg2)) ((World.cell?_of_block (hg2.block w.heap.size (by rw [alloc_size]; omega) (by simp))).trans (cell_blk (alloc_at _ _) 0 rfl)) hz)
  clear h hst hl hA hR hn
  obtain ⟨m, hm⟩ : ∃ m, m = v.n := ⟨_, rfl⟩
  rw [← hm] at HW ⊢
  clear hm
  go_enter Tryz.func36, Tryz.ntmps36
  go_wp2_with (go_at_call 57; refine (HW.out _ rfl).mono ?_; rintro e w3 ⟨rfl, k1, k2⟩; have K1 := Lib.hid k1; have K2 := Lib.hid k2; clear k1 k2)
  go_returns
  exact ⟨rfl, K1.out, K2.out⟩
end Go.Proofs.YtihioekepflpiaaGreatDoor
