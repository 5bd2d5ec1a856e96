import Derived.Test.YtihioekepflpiaaGreatDoorZb28
import Derived.Test.YtihioekepflpiaaGreatDoorZb36
set_option linter.unusedVariables false
set_option linter.unusedSimpArgs false
namespace Go.Proofs.YtihioekepflpiaaGreatDoor
open Go.RowKit
/-- What a body's function answers. -/
def BodyPost (A : Nat → Addr) (w w' : World) (r : Except Nat (List Nat)) (e : Ending) : Prop := w.grownBy w' none ∧ match r with
  | .ok l => ∃ a c, e = .returned (.tuple #[.slice a l.length c, .nilIface]) ∧ Bytes w' (.slice a l.length c) l ∧ Whole0 (.slice a l.length c)
  | .error k => ∃ u, e = .returned (.tuple #[u, errV A k])
/-- An element of a tag, with the body that a function answers. -/
def putR (s : De.St) (t : Nat) (r : Except Nat (List Nat)) : De.St := match r with
  | .error k => { s with e := k }
  | .ok l => De.put s t l
/-- The bodies that a writer is asked for: of an error that isn't none's, or of no more bytes than so many. -/
def BodyOk (r : Except Nat (List Nat)) : Prop := match r with
  | .error k => k ≠ 0
  | .ok l => l.length ≤ 1000000000 ∧ ∀ x ∈ l, x < 256
theorem FrW.sup {w w3 : World} {u : Value} {l : List Nat} (h : FrW w w3 u l) (hl : ∀ x ∈ l, x < 256) : Sup (fun k => w.heap.size ≤ k ∧ k < w3.heap.size) w3 (fun W => Bytes W u l ∧ Whole0 u) :=
  (bytes_sup (Bytes.own h.own hl) (fun k hk => hk.2) (fun _ k hk => by
    obtain ⟨a, n, c, rfl, rfl⟩ := hk
    exact h.own.lt _ rfl)).map fun W hW => ⟨hW, Whole0.own h.own⟩
theorem elem_lt256 {t : Nat} {l : List Nat} (ht : t < 256) (hl : ∀ x ∈ l, x < 256) : ∀ x ∈ Tl.elem t l, x < 256 := by
  intro x hx
  simp only [Tl.elem, List.cons_append, List.nil_append, List.mem_cons, List.mem_append] at hx
  rcases hx with rfl | hx | hx
  · exact ht
  · exact Tl.lenB_lt _ x hx
  · exact hl x hx
theorem fail_err {s : De.St} {k : Nat} (he : s.e = 0) : De.fail s k = { s with e := k } := by unfold De.fail; rw [if_pos he]
theorem elem_len70 {t : Nat} {l : List Nat} (h : ¬ 65530 < l.length) : (Tl.elem t l).length ≤ 70000 := by
  have h1 := Tl.more_le l.length
  rw [Tl.elem_len]
  omega
set_option maxRecDepth 100000 in
set_option maxHeartbeats 1000000 in
theorem prWrite_int {A : Nat → Addr} {W0 w : World} {F : Nat → Prop} {b : Nat} {s : De.St} (h : PrW A W0 F b s w) (hE : AllErrs W0 A) (hl : Lim 1000 s) (t : Nat) (ht : Tl.known (t : Int) = true) (x : Int) (f : Nat) (caps : Array Value) (r : Except Nat (List Nat)) (hr : BodyOk r)
    (hen : ∀ args w, (callFunc f args).run Tryz.prog w = .ok (.enter f args) w) (hB : ∀ W, w.grownBy W none → Calls Tryz.prog f (#[.int .i64 x] ++ caps) W fun e w' => BodyPost A W w' r e) :
    Calls Tryz.prog 54 #[.pointer (some ⟨b, 0, none⟩), .int .i64 (t : Int), .int .i64 x, .func (.func f) #[] caps] w fun e w' => PrPost A W0 F b w w' (if s.e = 0 then putR s t r else s) e := by
  have HX := Lib.hid h
  obtain ⟨c2, f2, hbl⟩ := h.err_cell
  by_cases he : s.e = 0
  · rw [if_pos he]
    rw [errOf, if_pos he] at c2
    cases r with
    | error k =>
      have hk : k ≠ 0 := hr
      have HF : Hid (∀ w2, w.grownBy w2 none → Calls Tryz.prog 53 #[.pointer (some ⟨b, 0, none⟩), errV A k] w2 fun e w' => PrPost A W0 F b w w' (putR s t (.error k)) e) := Lib.hid (fun w2 hg => (prFail_any (HX.out.grow hg) k hk).mono (fun e w' hp => by
        rw [fail_err he] at hp
        exact HX.out.after hg hp))
      have HBd := Lib.hid hB
      clear h he hl ht hr hE hB hk
      go_enter Tryz.func54, Tryz.ntmps54
      go_wp2_with (first
        | ((with_reducible refine (HBd.out _ (grown_refl _ _)).mono ?_); rintro e w2 ⟨hg2, u, rfl⟩; have HG2 := Lib.hid hg2; clear hg2)
        | (go_at_call 53; refine (HF.out _ HG2.out).mono ?_; rintro e w3 ⟨rfl, k1, k2⟩; have K1 := Lib.hid k1; have K2 := Lib.hid k2; clear k1 k2))
      go_returns
      exact ⟨rfl, K1.out, K2.out⟩
    | ok l =>
      obtain ⟨hll, hl8⟩ : l.length ≤ 1000000000 ∧ ∀ x ∈ l, x < 256 := hr
      have htn := Tl.known_nat (t : Int) ht
      by_cases hbig : 65530 < l.length
      · have hst : putR s t (.ok l) = { s with e := 3 } := by show De.put s t l = _; unfold De.put; rw [if_pos hbig]
        rw [hst]
        have HF : Hid (∀ w2, w.grownBy w2 none → Calls Tryz.prog 53 #[.pointer (some ⟨b, 0, none⟩), errV A 3] w2 fun e w' => PrPost A W0 F b w w' { s with e := 3 } e) := Lib.hid (fun w2 hg => (prFail_any (HX.out.grow hg) 3 (by decide)).mono (fun e w' hp => by
          rw [fail_err he] at hp
          exact HX.out.after hg hp))
        have HP : Hid (∀ a c W, w.grownBy W none → Bytes W (.slice a l.length c) l → Whole0 (.slice a l.length c) → Calls Tryz.prog 76 #[.agg #[.int .i64 (t : Int), .slice a l.length c]] W fun e w' => e = .returned (.tuple #[.slice none 0 0, errV A 3]) ∧ W.grownBy w' none) := Lib.hid (fun a c W hW hb h0 => (tput_any A t _ l W hb h0 (by omega) (hE.grown (grown_trans HX.out.base hW))).mono (fun e w' hp => by
          obtain ⟨hp, hg⟩ := hp
          unfold PutPost at hp
          rw [if_neg (by rw [ht]; simp), if_pos hbig] at hp
          exact ⟨hp, hg⟩))
        have HBd := Lib.hid hB
        obtain ⟨n, hn⟩ : ∃ n, n = l.length := ⟨_, rfl⟩
        clear h he hl ht hE hB hll hl8 hbig hst htn
        go_enter Tryz.func54, Tryz.ntmps54
        go_wp2_with (first
          | ((with_reducible refine (HBd.out _ (grown_refl _ _)).mono ?_); rintro e w2 ⟨hg2, a, c, rfl, hb2, h02⟩; have HG2 := Lib.hid hg2; have HB2 := Lib.hid hb2; have H02 := Lib.hid h02; clear hg2 hb2 h02)
          | (go_at_call 76; refine (HP.out _ _ _ HG2.out HB2.out H02.out).mono ?_; rintro e w3 ⟨rfl, hg3⟩; have HG3 := Lib.hid (grown_trans HG2.out hg3); clear hg3)
          | (go_at_call 53; refine (HF.out _ HG3.out).mono ?_; rintro e w4 ⟨rfl, k1, k2⟩; have K1 := Lib.hid k1; have K2 := Lib.hid k2; clear k1 k2))
        go_returns
        exact ⟨rfl, K1.out, K2.out⟩
      · have hst : putR s t (.ok l) = De.add s (Tl.elem t l) := by show De.put s t l = _; unfold De.put; rw [if_neg hbig]
        rw [hst]
        have HAd : Hid (∀ w2 x, FrW w w2 x (Tl.elem t l) → Calls Tryz.prog 77 #[.pointer (some ⟨b, 0, none⟩), x] w2 fun e w' => PrPost A W0 F b w w' (De.add s (Tl.elem t l)) e) := Lib.hid (fun w2 x hx => prAdd_new HX.out he hl (elem_len70 hbig) hx.grown (hx.sup (elem_lt256 (by omega) hl8)))
        have HP : Hid (∀ a c W, w.grownBy W none → Bytes W (.slice a l.length c) l → Whole0 (.slice a l.length c) → Calls Tryz.prog 76 #[.agg #[.int .i64 (t : Int), .slice a l.length c]] W fun e w' => ∃ u, e = .returned (.tuple #[u, .nilIface]) ∧ FrW w w' u (Tl.elem t l)) := Lib.hid (fun a c W hW hb h0 => (tput_any A t _ l W hb h0 (by omega) (hE.grown (grown_trans HX.out.base hW))).mono (fun e w' hp => by
          obtain ⟨hp, hg⟩ := hp
          unfold PutPost at hp
          rw [if_neg (by rw [ht]; simp), if_neg hbig] at hp
          obtain ⟨u, h1, h2⟩ := hp
          exact ⟨u, h1, h2.of hW⟩))
        have HBd := Lib.hid hB
        obtain ⟨n, hn⟩ : ∃ n, n = l.length := ⟨_, rfl⟩
        clear h he hl ht hE hB hll hl8 hbig hst htn
        go_enter Tryz.func54, Tryz.ntmps54
        go_wp2_with (first
          | ((with_reducible refine (HBd.out _ (grown_refl _ _)).mono ?_); rintro e w2 ⟨hg2, a, c, rfl, hb2, h02⟩; have HG2 := Lib.hid hg2; have HB2 := Lib.hid hb2; have H02 := Lib.hid h02; clear hg2 hb2 h02)
          | (go_at_call 76; refine (HP.out _ _ _ HG2.out HB2.out H02.out).mono ?_; rintro e w3 ⟨u, rfl, hf3⟩; have F3 := Lib.hid hf3; clear hf3)
          | (go_at_call 77; refine (HAd.out _ _ F3.out).mono ?_; rintro e w4 ⟨rfl, k1, k2⟩; have K1 := Lib.hid k1; have K2 := Lib.hid k2; clear k1 k2))
        go_returns
        exact ⟨rfl, K1.out, K2.out⟩
  · rw [if_neg he]
    rw [errOf, if_neg he] at c2
    have HK := Lib.hid HX.out.same
    clear h he hE hB
    go_enter Tryz.func54, Tryz.ntmps54
    go_wp2
    go_returns
    exact ⟨rfl, HK.out⟩
end Go.Proofs.YtihioekepflpiaaGreatDoor
namespace Go.Proofs.YtihioekepflpiaaGreatDoor
open Go.RowKit
set_option maxRecDepth 100000 in
set_option maxHeartbeats 1000000 in
theorem prWrite_bytes {A : Nat → Addr} {W0 w : World} {F : Nat → Prop} {b : Nat} {s : De.St} (h : PrW A W0 F b s w) (hE : AllErrs W0 A) (hl : Lim 1000 s) (t : Nat) (ht : Tl.known (t : Int) = true) (xa : Option Addr) (xn xc : Nat) (f : Nat) (caps : Array Value) (r : Except Nat (List Nat)) (hr : BodyOk r)
    (hen : ∀ args w, (callFunc f args).run Tryz.prog w = .ok (.enter f args) w) (hB : ∀ W, w.grownBy W none → Calls Tryz.prog f (#[.slice xa xn xc] ++ caps) W fun e w' => BodyPost A W w' r e) :
    Calls Tryz.prog 61 #[.pointer (some ⟨b, 0, none⟩), .int .i64 (t : Int), .slice xa xn xc, .func (.func f) #[] caps] w fun e w' => PrPost A W0 F b w w' (if s.e = 0 then putR s t r else s) e := by
  have HX := Lib.hid h
  obtain ⟨c2, f2, hbl⟩ := h.err_cell
  by_cases he : s.e = 0
  · rw [if_pos he]
    rw [errOf, if_pos he] at c2
    cases r with
    | error k =>
      have hk : k ≠ 0 := hr
      have HF : Hid (∀ w2, w.grownBy w2 none → Calls Tryz.prog 53 #[.pointer (some ⟨b, 0, none⟩), errV A k] w2 fun e w' => PrPost A W0 F b w w' (putR s t (.error k)) e) := Lib.hid (fun w2 hg => (prFail_any (HX.out.grow hg) k hk).mono (fun e w' hp => by
        rw [fail_err he] at hp
        exact HX.out.after hg hp))
      have HBd := Lib.hid hB
      clear h he hl ht hr hE hB hk
      go_enter Tryz.func61, Tryz.ntmps61
      go_wp2_with (first
        | ((with_reducible refine (HBd.out _ (grown_refl _ _)).mono ?_); rintro e w2 ⟨hg2, u, rfl⟩; have HG2 := Lib.hid hg2; clear hg2)
        | (go_at_call 53; refine (HF.out _ HG2.out).mono ?_; rintro e w3 ⟨rfl, k1, k2⟩; have K1 := Lib.hid k1; have K2 := Lib.hid k2; clear k1 k2))
      go_returns
      exact ⟨rfl, K1.out, K2.out⟩
    | ok l =>
      obtain ⟨hll, hl8⟩ : l.length ≤ 1000000000 ∧ ∀ x ∈ l, x < 256 := hr
      have htn := Tl.known_nat (t : Int) ht
      by_cases hbig : 65530 < l.length
      · have hst : putR s t (.ok l) = { s with e := 3 } := by show De.put s t l = _; unfold De.put; rw [if_pos hbig]
        rw [hst]
        have HF : Hid (∀ w2, w.grownBy w2 none → Calls Tryz.prog 53 #[.pointer (some ⟨b, 0, none⟩), errV A 3] w2 fun e w' => PrPost A W0 F b w w' { s with e := 3 } e) := Lib.hid (fun w2 hg => (prFail_any (HX.out.grow hg) 3 (by decide)).mono (fun e w' hp => by
          rw [fail_err he] at hp
          exact HX.out.after hg hp))
        have HP : Hid (∀ a c W, w.grownBy W none → Bytes W (.slice a l.length c) l → Whole0 (.slice a l.length c) → Calls Tryz.prog 76 #[.agg #[.int .i64 (t : Int), .slice a l.length c]] W fun e w' => e = .returned (.tuple #[.slice none 0 0, errV A 3]) ∧ W.grownBy w' none) := Lib.hid (fun a c W hW hb h0 => (tput_any A t _ l W hb h0 (by omega) (hE.grown (grown_trans HX.out.base hW))).mono (fun e w' hp => by
          obtain ⟨hp, hg⟩ := hp
          unfold PutPost at hp
          rw [if_neg (by rw [ht]; simp), if_pos hbig] at hp
          exact ⟨hp, hg⟩))
        have HBd := Lib.hid hB
        obtain ⟨n, hn⟩ : ∃ n, n = l.length := ⟨_, rfl⟩
        clear h he hl ht hE hB hll hl8 hbig hst htn
        go_enter Tryz.func61, Tryz.ntmps61
        go_wp2_with (first
          | ((with_reducible refine (HBd.out _ (grown_refl _ _)).mono ?_); rintro e w2 ⟨hg2, a, c, rfl, hb2, h02⟩; have HG2 := Lib.hid hg2; have HB2 := Lib.hid hb2; have H02 := Lib.hid h02; clear hg2 hb2 h02)
          | (go_at_call 76; refine (HP.out _ _ _ HG2.out HB2.out H02.out).mono ?_; rintro e w3 ⟨rfl, hg3⟩; have HG3 := Lib.hid (grown_trans HG2.out hg3); clear hg3)
          | (go_at_call 53; refine (HF.out _ HG3.out).mono ?_; rintro e w4 ⟨rfl, k1, k2⟩; have K1 := Lib.hid k1; have K2 := Lib.hid k2; clear k1 k2))
        go_returns
        exact ⟨rfl, K1.out, K2.out⟩
      · have hst : putR s t (.ok l) = De.add s (Tl.elem t l) := by show De.put s t l = _; unfold De.put; rw [if_neg hbig]
        rw [hst]
        have HAd : Hid (∀ w2 x, FrW w w2 x (Tl.elem t l) → Calls Tryz.prog 77 #[.pointer (some ⟨b, 0, none⟩), x] w2 fun e w' => PrPost A W0 F b w w' (De.add s (Tl.elem t l)) e) := Lib.hid (fun w2 x hx => prAdd_new HX.out he hl (elem_len70 hbig) hx.grown (hx.sup (elem_lt256 (by omega) hl8)))
        have HP : Hid (∀ a c W, w.grownBy W none → Bytes W (.slice a l.length c) l → Whole0 (.slice a l.length c) → Calls Tryz.prog 76 #[.agg #[.int .i64 (t : Int), .slice a l.length c]] W fun e w' => ∃ u, e = .returned (.tuple #[u, .nilIface]) ∧ FrW w w' u (Tl.elem t l)) := Lib.hid (fun a c W hW hb h0 => (tput_any A t _ l W hb h0 (by omega) (hE.grown (grown_trans HX.out.base hW))).mono (fun e w' hp => by
          obtain ⟨hp, hg⟩ := hp
          unfold PutPost at hp
          rw [if_neg (by rw [ht]; simp), if_neg hbig] at hp
          obtain ⟨u, h1, h2⟩ := hp
          exact ⟨u, h1, h2.of hW⟩))
        have HBd := Lib.hid hB
        obtain ⟨n, hn⟩ : ∃ n, n = l.length := ⟨_, rfl⟩
        clear h he hl ht hE hB hll hl8 hbig hst htn
        go_enter Tryz.func61, Tryz.ntmps61
        go_wp2_with (first
          | ((with_reducible refine (HBd.out _ (grown_refl _ _)).mono ?_); rintro e w2 ⟨hg2, a, c, rfl, hb2, h02⟩; have HG2 := Lib.hid hg2; have HB2 := Lib.hid hb2; have H02 := Lib.hid h02; clear hg2 hb2 h02)
          | (go_at_call 76; refine (HP.out _ _ _ HG2.out HB2.out H02.out).mono ?_; rintro e w3 ⟨u, rfl, hf3⟩; have F3 := Lib.hid hf3; clear hf3)
          | (go_at_call 77; refine (HAd.out _ _ F3.out).mono ?_; rintro e w4 ⟨rfl, k1, k2⟩; have K1 := Lib.hid k1; have K2 := Lib.hid k2; clear k1 k2))
        go_returns
        exact ⟨rfl, K1.out, K2.out⟩
  · rw [if_neg he]
    rw [errOf, if_neg he] at c2
    have HK := Lib.hid HX.out.same
    clear h he hE hB
    go_enter Tryz.func61, Tryz.ntmps61
    go_wp2
    go_returns
    exact ⟨rfl, HK.out⟩
set_option maxRecDepth 100000 in
set_option maxHeartbeats 1000000 in
theorem prWrite_str {A : Nat → Addr} {W0 w : World} {F : Nat → Prop} {b : Nat} {s : De.St} (h : PrW A W0 F b s w) (hE : AllErrs W0 A) (hl : Lim 1000 s) (t : Nat) (ht : Tl.known (t : Int) = true) (x : ByteArray) (f : Nat) (caps : Array Value) (r : Except Nat (List Nat)) (hr : BodyOk r)
    (hen : ∀ args w, (callFunc f args).run Tryz.prog w = .ok (.enter f args) w) (hB : ∀ W, w.grownBy W none → Calls Tryz.prog f (#[.string x] ++ caps) W fun e w' => BodyPost A W w' r e) :
    Calls Tryz.prog 57 #[.pointer (some ⟨b, 0, none⟩), .int .i64 (t : Int), .string x, .func (.func f) #[] caps] w fun e w' => PrPost A W0 F b w w' (if s.e = 0 then putR s t r else s) e := by
  have HX := Lib.hid h
  obtain ⟨c2, f2, hbl⟩ := h.err_cell
  by_cases he : s.e = 0
  · rw [if_pos he]
    rw [errOf, if_pos he] at c2
    cases r with
    | error k =>
      have hk : k ≠ 0 := hr
      have HF : Hid (∀ w2, w.grownBy w2 none → Calls Tryz.prog 53 #[.pointer (some ⟨b, 0, none⟩), errV A k] w2 fun e w' => PrPost A W0 F b w w' (putR s t (.error k)) e) := Lib.hid (fun w2 hg => (prFail_any (HX.out.grow hg) k hk).mono (fun e w' hp => by
        rw [fail_err he] at hp
        exact HX.out.after hg hp))
      have HBd := Lib.hid hB
      clear h he hl ht hr hE hB hk
      go_enter Tryz.func57, Tryz.ntmps57
      go_wp2_with (first
        | ((with_reducible refine (HBd.out _ (grown_refl _ _)).mono ?_); rintro e w2 ⟨hg2, u, rfl⟩; have HG2 := Lib.hid hg2; clear hg2)
        | (go_at_call 53; refine (HF.out _ HG2.out).mono ?_; rintro e w3 ⟨rfl, k1, k2⟩; have K1 := Lib.hid k1; have K2 := Lib.hid k2; clear k1 k2))
      go_returns
      exact ⟨rfl, K1.out, K2.out⟩
    | ok l =>
      obtain ⟨hll, hl8⟩ : l.length ≤ 1000000000 ∧ ∀ x ∈ l, x < 256 := hr
      have htn := Tl.known_nat (t : Int) ht
      by_cases hbig : 65530 < l.length
      · have hst : putR s t (.ok l) = { s with e := 3 } := by show De.put s t l = _; unfold De.put; rw [if_pos hbig]
        rw [hst]
        have HF : Hid (∀ w2, w.grownBy w2 none → Calls Tryz.prog 53 #[.pointer (some ⟨b, 0, none⟩), errV A 3] w2 fun e w' => PrPost A W0 F b w w' { s with e := 3 } e) := Lib.hid (fun w2 hg => (prFail_any (HX.out.grow hg) 3 (by decide)).mono (fun e w' hp => by
          rw [fail_err he] at hp
          exact HX.out.after hg hp))
        have HP : Hid (∀ a c W, w.grownBy W none → Bytes W (.slice a l.length c) l → Whole0 (.slice a l.length c) → Calls Tryz.prog 76 #[.agg #[.int .i64 (t : Int), .slice a l.length c]] W fun e w' => e = .returned (.tuple #[.slice none 0 0, errV A 3]) ∧ W.grownBy w' none) := Lib.hid (fun a c W hW hb h0 => (tput_any A t _ l W hb h0 (by omega) (hE.grown (grown_trans HX.out.base hW))).mono (fun e w' hp => by
          obtain ⟨hp, hg⟩ := hp
          unfold PutPost at hp
          rw [if_neg (by rw [ht]; simp), if_pos hbig] at hp
          exact ⟨hp, hg⟩))
        have HBd := Lib.hid hB
        obtain ⟨n, hn⟩ : ∃ n, n = l.length := ⟨_, rfl⟩
        clear h he hl ht hE hB hll hl8 hbig hst htn
        go_enter Tryz.func57, Tryz.ntmps57
        go_wp2_with (first
          | ((with_reducible refine (HBd.out _ (grown_refl _ _)).mono ?_); rintro e w2 ⟨hg2, a, c, rfl, hb2, h02⟩; have HG2 := Lib.hid hg2; have HB2 := Lib.hid hb2; have H02 := Lib.hid h02; clear hg2 hb2 h02)
          | (go_at_call 76; refine (HP.out _ _ _ HG2.out HB2.out H02.out).mono ?_; rintro e w3 ⟨rfl, hg3⟩; have HG3 := Lib.hid (grown_trans HG2.out hg3); clear hg3)
          | (go_at_call 53; refine (HF.out _ HG3.out).mono ?_; rintro e w4 ⟨rfl, k1, k2⟩; have K1 := Lib.hid k1; have K2 := Lib.hid k2; clear k1 k2))
        go_returns
        exact ⟨rfl, K1.out, K2.out⟩
      · have hst : putR s t (.ok l) = De.add s (Tl.elem t l) := by show De.put s t l = _; unfold De.put; rw [if_neg hbig]
        rw [hst]
        have HAd : Hid (∀ w2 x, FrW w w2 x (Tl.elem t l) → Calls Tryz.prog 77 #[.pointer (some ⟨b, 0, none⟩), x] w2 fun e w' => PrPost A W0 F b w w' (De.add s (Tl.elem t l)) e) := Lib.hid (fun w2 x hx => prAdd_new HX.out he hl (elem_len70 hbig) hx.grown (hx.sup (elem_lt256 (by omega) hl8)))
        have HP : Hid (∀ a c W, w.grownBy W none → Bytes W (.slice a l.length c) l → Whole0 (.slice a l.length c) → Calls Tryz.prog 76 #[.agg #[.int .i64 (t : Int), .slice a l.length c]] W fun e w' => ∃ u, e = .returned (.tuple #[u, .nilIface]) ∧ FrW w w' u (Tl.elem t l)) := Lib.hid (fun a c W hW hb h0 => (tput_any A t _ l W hb h0 (by omega) (hE.grown (grown_trans HX.out.base hW))).mono (fun e w' hp => by
          obtain ⟨hp, hg⟩ := hp
          unfold PutPost at hp
          rw [if_neg (by rw [ht]; simp), if_neg hbig] at hp
          obtain ⟨u, h1, h2⟩ := hp
          exact ⟨u, h1, h2.of hW⟩))
        have HBd := Lib.hid hB
        obtain ⟨n, hn⟩ : ∃ n, n = l.length := ⟨_, rfl⟩
        clear h he hl ht hE hB hll hl8 hbig hst htn
        go_enter Tryz.func57, Tryz.ntmps57
        go_wp2_with (first
          | ((with_reducible refine (HBd.out _ (grown_refl _ _)).mono ?_); rintro e w2 ⟨hg2, a, c, rfl, hb2, h02⟩; have HG2 := Lib.hid hg2; have HB2 := Lib.hid hb2; have H02 := Lib.hid h02; clear hg2 hb2 h02)
          | (go_at_call 76; refine (HP.out _ _ _ HG2.out HB2.out H02.out).mono ?_; rintro e w3 ⟨u, rfl, hf3⟩; have F3 := Lib.hid hf3; clear hf3)
          | (go_at_call 77; refine (HAd.out _ _ F3.out).mono ?_; rintro e w4 ⟨rfl, k1, k2⟩; have K1 := Lib.hid k1; have K2 := Lib.hid k2; clear k1 k2))
        go_returns
        exact ⟨rfl, K1.out, K2.out⟩
  · rw [if_neg he]
    rw [errOf, if_neg he] at c2
    have HK := Lib.hid HX.out.same
    clear h he hE hB
    go_enter Tryz.func57, Tryz.ntmps57
    go_wp2
    go_returns
    exact ⟨rfl, HK.out⟩
end Go.Proofs.YtihioekepflpiaaGreatDoor
