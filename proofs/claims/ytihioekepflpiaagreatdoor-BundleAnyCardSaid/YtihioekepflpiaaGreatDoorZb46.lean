import Derived.Test.YtihioekepflpiaaGreatDoorZb21
import Derived.Test.YtihioekepflpiaaGreatDoorZb22
import Derived.Test.YtihioekepflpiaaGreatDoorZb28
import Derived.Test.YtihioekepflpiaaGreatDoorZb40
import Derived.Test.YtihioekepflpiaaGreatDoorZb41
import Derived.Test.YtihioekepflpiaaGreatDoorZb44
set_option linter.unusedVariables false
set_option linter.unusedSimpArgs false
namespace Go.Proofs.YtihioekepflpiaaGreatDoor
open Go.RowKit Bu
set_option maxRecDepth 100000 in
set_option maxHeartbeats 4000000 in
theorem prRows_an {A : Nat → Addr} {W0 w : World} {F : Nat → Prop} {b : Nat} {s : De.St} (h : PrW A W0 F b s w) (hE : AllErrs W0 A) (tag : Int) (xs : List An) (a : Option Addr) (n c : Nat) (hxs : xs.length = n) (hn : n ≤ 9223372036854775807) (hB : ∀ W, Upto F w W → Ans W (.slice a n c) xs) (f : Nat) (caps : Array Value) (st : Nat → De.St)
    (hen : ∀ args w, (callFunc f args).run Tryz.prog w = .ok (.enter f args) w) (h0 : st 0 = if s.e = 0 then De.opn s tag else s)
    (hcall : ∀ j F' W, j < n → PrW A W0 F' b (st j) W → Calls Tryz.prog f (#[.pointer (some ⟨b, 0, none⟩), .agg #[.int .i64 (xs.getD j an0).g, .string (xs.getD j an0).k, .int .i64 (xs.getD j an0).f, .int .i64 (xs.getD j an0).t]] ++ caps) W fun e w' => PrPost A W0 F' b W w' (st (j + 1)) e)
    (hcl : ∀ F' W, PrW A W0 F' b (st n) W → Calls Tryz.prog 42 #[.pointer (some ⟨b, 0, none⟩)] W fun e w' => PrPost A W0 F' b W w' (De.step (st n) { De.none0 with kind := 2 }) e) :
    Calls Tryz.prog 37 #[.pointer (some ⟨b, 0, none⟩), .int .i64 tag, .slice a n c, .func (.func f) #[] caps] w fun e w' => PrPost A W0 F b w w' (De.step (st n) { De.none0 with kind := 2 }) e := by
  have hI : (Tryz.prog.info? 33).map (·.size) = some 4 := an_info
  have HX := Lib.hid h
  have hfn : ∀ W, (binOp .neq 81 (.func (.func f) #[] caps) .nilFunc).run Tryz.prog W = .ok (.bool true) W := fun W => rfl
  have HB := Lib.hid hB
  have HXs := Lib.hid hxs
  have HCl := Lib.hid hcall
  have HCs := Lib.hid hcl
  have HO := Lib.hid (prOpen_any h hE tag)
  rw [← h0] at HO
  obtain ⟨T, hT⟩ : ∃ T, T = De.step (st n) { De.none0 with kind := 2 } := ⟨_, rfl⟩
  rw [← hT] at HCs ⊢
  clear h hE hxs hB hcall hcl h0 hT
  go_enter Tryz.func37, Tryz.ntmps37
  go_wp2_with (go_at_call 34; refine HO.out.mono ?_; rintro e w2 hp; have he := hp.1; subst he; have R2 : Hid (∃ F', RunW A W0 w F F' b (st 0) w2) := Lib.hid ⟨_, RunW.first hp⟩; clear hp)
  go_loopw [15] (fun i wr => ∃ (j : Nat) (F' : Nat → Prop), j ≤ n ∧ i = .int .i64 j ∧ RunW A W0 w F F' b (st j) wr) (fun i _ => n - (intOf i).toNat)
  case atStart =>
    obtain ⟨F', hF'⟩ := R2.out
    exact ⟨0, F', Nat.zero_le _, rfl, hF'⟩
  case round =>
    obtain ⟨j, F', hj, rfl, hR⟩ := hrel
    have R := Lib.hid hR
    by_cases hjn : j < n
    · have HC0 := Lib.hid (fun W (hW : PrW A W0 F' b (st j) W) => HCl.out j F' W hjn hW)
      obtain ⟨_, sb, so, _, hv, h3, _, h4⟩ := (HB.out wr hR.upto).form
      rw [HXs.out] at h3 h4 hv
      simp only [Value.slice.injEq] at hv
      obtain ⟨rfl, _, rfl⟩ := hv
      obtain ⟨rfl, hsb⟩ := h3 (by omega)
      obtain ⟨c0, c1, c2, c3⟩ := h4 j hjn
      generalize (xs.getD j an0).g = p1 at *
      generalize (xs.getD j an0).k = p2 at *
      generalize (xs.getD j an0).f = p3 at *
      generalize (xs.getD j an0).t = p4 at *
      obtain ⟨w4, hw4⟩ : ∃ w4, w4 = wr.alloc (.cells #[.int .i64 p1, .string p2, .int .i64 p3, .int .i64 p4] 33) := ⟨_, rfl⟩
      have hg4 : wr.grownBy w4 none := by rw [hw4]; exact World.grownBy_alloc _ _ _
      have HB4 : Hid (w4.heap[wr.heap.size]? = some (.cells #[.int .i64 p1, .string p2, .int .i64 p3, .int .i64 p4] 33 (0, 0))) := Lib.hid (by rw [hw4]; exact alloc_at _ _)
      have R4 := Lib.hid (R.out.still hg4)
      have HC := Lib.hid (HC0.out w4 R4.out.wrt)
      have HW4 := Lib.hid hw4
      clear hR h4 h3 hw4 hg4 HC0
      go_wp2_with (first
        | (rw [← HW4.out]; refine wpList_load_row (by rfl) 33 (.tmp 9) (by rfl) wr.heap.size (by rfl) 33 #[.int .i64 p1, .string p2, .int .i64 p3, .int .i64 p4] (0, 0) _ HB4.out Tryz.underlying33 rfl hI ?_)
        | ((try rw [← HW4.out]); (with_reducible refine HC.out.mono ?_); rintro e w5 hp; have he := hp.1; subst he; have R5 := Lib.hid (R4.out.call hp); clear hp))
      go_roundw
      case rel => exact ⟨j + 1, _, by omega, by go_num, R5.out⟩
      case measure => simp [intOf]; omega
    · obtain rfl : j = n := by omega
      have HC := Lib.hid (HCs.out F' wr hR.wrt)
      clear hR
      go_wp2_with (go_at_call 42; (with_reducible refine HC.out.mono ?_); rintro e w5 hp; have he := hp.1; subst he; have R5 := Lib.hid (R.out.call hp); clear hp)
      go_returns
      exact R5.out.done HX.out.own HX.out.base
end Go.Proofs.YtihioekepflpiaaGreatDoor
namespace Go.Proofs.YtihioekepflpiaaGreatDoor
open Go.RowKit Bu
namespace Bu
def kb (k : ByteArray) : List Nat := unhex (strL k)
def wOpen (t : Int) : De.Val := { De.none0 with kind := 1, n := t }
def wClose : De.Val := { De.none0 with kind := 2 }
def wInt (n : Int) : De.Val := { De.none0 with kind := 3, n := n }
def wOct (b : List Nat) : De.Val := { De.none0 with kind := 6, b := b }
def wMom (n : Int) : De.Val := { De.none0 with kind := 9, n := n }
def wTxt (m : Int) (s : ByteArray) : De.Val := { De.none0 with kind := 7, n := m, t := strL s }
def putAn (s : De.St) (x : An) : De.St := De.step (De.step (De.step (De.step (De.step (De.step s (wOpen 48)) (wInt x.g)) (wOct (kb x.k))) (wMom x.f)) (wMom x.t)) wClose
end Bu
set_option maxRecDepth 100000 in
set_option maxHeartbeats 8000000 in
theorem bput1_any {A : Nat → Addr} {W0 w : World} {F : Nat → Prop} {b m : Nat} {s : De.St} (x : An) (h : PrW A W0 F b s w) (hA : BodiesOf A W0) (hg : GoodW m s) (hm : m ≤ 900) (hok : okKey x.k = true) (hgi : De.I64 x.g) (hfi : De.I64 x.f) (hti : De.I64 x.t) (hks : x.k.size ≤ 1000) :
    Calls Tryz.prog 38 #[.pointer (some ⟨b, 0, none⟩), .agg #[.int .i64 x.g, .string x.k, .int .i64 x.f, .int .i64 x.t]] w fun e w' => PrPost A W0 F b w w' (putAn s x) e := by
  obtain ⟨xg, xk, xf, xt⟩ := x
  have hkk : (strL xk).length = 32 ∧ hexOk (strL xk) = true := by
    have : (decide ((strL xk).length = 32) && hexOk (strL xk)) = true := hok
    rw [Bool.and_eq_true, decide_eq_true_eq] at this
    exact this
  have hkl : (kb xk).length = 16 := by
    have := unhex_len (strL xk)
    rw [hkk.1] at this
    exact this
  have hlt : ∀ y ∈ kb xk, y < 256 := unhex_lt _ hkk.2
  have g1 := hg.step (wOpen 48) rfl (by simp [wOpen, De.none0])
  have g2 := g1.step (wInt xg) rfl (by simp [wInt, De.none0])
  have g3 : GoodW (m + 1 + 1 + 1) (De.step (De.step (De.step s (wOpen 48)) (wInt xg)) (wOct (kb xk))) := ⟨g2.lim.step, De.good_step g2.good ⟨hlt, by simp [wOct, De.none0]⟩⟩
  have g4 := g3.step (wMom xf) rfl (by simp [wMom, De.none0])
  have g5 := g4.step (wMom xt) rfl (by simp [wMom, De.none0])
  obtain ⟨w1, hw1⟩ : ∃ w1, w1 = w.alloc (.cells #[.int .i64 xg, .string xk, .int .i64 xf, .int .i64 xt] 33) := ⟨_, rfl⟩
  have hga : w.grownBy w1 none := by rw [hw1]; exact World.grownBy_alloc _ _ _
  have hb1 : w1.heap[w.heap.size]? = some (.cells #[.int .i64 xg, .string xk, .int .i64 xf, .int .i64 xt] 33 (0, 0)) := by rw [hw1]; exact alloc_at _ _
  have HW1 := Lib.hid hw1
  have HB1 := Lib.hid hb1
  have HG1 := Lib.hid hga
  have HX := Lib.hid h
  have HNf : Hid (¬ F w.heap.size) := Lib.hid (fun hf => Nat.lt_irrefl _ (h.own _ hf).2)
  have hby := bytes_at A xk w1 (by have : xk.size ≤ 1000 := hks; omega) (hA.errs.grown (grown_trans h.base hga))
  unfold ByPostF at hby
  simp only [if_pos hkk] at hby
  have HBy := Lib.hid hby
  have H1 := Lib.hid (h.still hga)
  have HKn : Hid (∀ k, k = w1.heap.size → ¬ F k) := Lib.hid (fun k hk hf => by subst hk; have := (h.own _ hf).2; have := hga.size; omega)
  have HKl : Hid (∀ W, Bytes W (.slice (some ⟨w1.heap.size, 0, none⟩) 16 16) (kb xk) → w1.heap.size < W.heap.size) := Lib.hid (fun W hb => by
    obtain ⟨_, _, sb, so, _, e9, _, h4, _⟩ := hb
    simp only [Value.slice.injEq] at e9
    obtain ⟨rfl, _, _⟩ := e9
    have h5 := h4 (by omega)
    have h6 : w1.heap.size = sb := by have := h5.1; simp only [Option.some.injEq, Addr.mk.injEq] at this; exact this.1
    rw [h6]; exact h5.2)
  have HOp := Lib.hid (fun F' W (h : PrW A W0 F' b s W) => prOpen_step h hA (wOpen 48) rfl)
  have HIn := Lib.hid (fun F' W (h : PrW A W0 F' b (De.step s (wOpen 48)) W) => prInt_any h hA (g1.lim.mono (by omega)) (wInt xg) rfl hgi)
  have HOc := Lib.hid (fun F' W va vn vc (h : PrW A W0 F' b (De.step (De.step s (wOpen 48)) (wInt xg)) W) hb h0 => prOctets_any h hA (g2.lim.mono (by omega)) (wOct (kb xk)) rfl va vn vc hb h0 (by show (kb xk).length ≤ 1000000; omega))
  have HM1 := Lib.hid (fun F' W (h : PrW A W0 F' b (De.step (De.step (De.step s (wOpen 48)) (wInt xg)) (wOct (kb xk))) W) => prMoment_any h hA (g3.lim.mono (by omega)) (wMom xf) rfl hfi)
  have HM2 := Lib.hid (fun F' W (h : PrW A W0 F' b (De.step (De.step (De.step (De.step s (wOpen 48)) (wInt xg)) (wOct (kb xk))) (wMom xf)) W) => prMoment_any h hA (g4.lim.mono (by omega)) (wMom xt) rfl hti)
  have HCl := Lib.hid (fun F' W (h : PrW A W0 F' b (De.step (De.step (De.step (De.step (De.step s (wOpen 48)) (wInt xg)) (wOct (kb xk))) (wMom xf)) (wMom xt)) W) => prClose_any h hA.errs (g5.lim.mono (by omega)) (fun p hp => (g5.good.op p hp).1) wClose rfl)
  have hpp : putAn s ⟨xg, xk, xf, xt⟩ = De.step (De.step (De.step (De.step (De.step (De.step s (wOpen 48)) (wInt xg)) (wOct (kb xk))) (wMom xf)) (wMom xt)) wClose := rfl
  rw [hpp]
  have hn1 : (wOpen 48).n = 48 := rfl
  have hn2 : (wInt xg).n = xg := rfl
  have hn3 : (wMom xf).n = xf := rfl
  have hn4 : (wMom xt).n = xt := rfl
  have hn5 : (wOct (kb xk)).b = kb xk := rfl
  rw [hn1] at HOp
  rw [hn2] at HIn
  rw [hn3] at HM1
  rw [hn4] at HM2
  rw [hn5] at HOc
  generalize De.step (De.step (De.step (De.step (De.step (De.step s (wOpen 48)) (wInt xg)) (wOct (kb xk))) (wMom xf)) (wMom xt)) wClose = s6 at *
  generalize De.step (De.step (De.step (De.step (De.step s (wOpen 48)) (wInt xg)) (wOct (kb xk))) (wMom xf)) (wMom xt) = s5 at *
  generalize De.step (De.step (De.step (De.step s (wOpen 48)) (wInt xg)) (wOct (kb xk))) (wMom xf) = s4 at *
  generalize De.step (De.step (De.step s (wOpen 48)) (wInt xg)) (wOct (kb xk)) = s3 at *
  generalize De.step (De.step s (wOpen 48)) (wInt xg) = s2 at *
  generalize De.step s (wOpen 48) = s1 at *
  have d1 := cell_blk hb1 1 rfl
  rw [hw1] at d1
  clear h hA hg hok hgi hfi hti hks hkk hkl hlt g1 g2 g3 g4 g5 hw1 hga hb1 hpp hn1 hn2 hn3 hn4 hn5 hby
  go_enter Tryz.func38, Tryz.ntmps38
  go_wp2_with (first
    | (go_at_call 39; (try rw [← HW1.out]); (with_reducible refine HBy.out.mono ?_); rintro e w2 ⟨⟨rfl, hkb⟩, hg2⟩; have R2 := Lib.hid (RunW.start (H1.out.still hg2)); have HG2 := Lib.hid (grown_trans HG1.out hg2); have HB2 := Lib.hid (hold_b3 HB1.out hg2); have HK2 := Lib.hid (HKl.out w2 hkb); have KB : Hid (Sup (fun k => k = w1.heap.size) w2 (fun W => Bytes W (.slice (some ⟨w1.heap.size, 0, none⟩) 16 16) (kb xk))) := Lib.hid (bytes_sup hkb (fun k hk => by subst hk; exact HKl.out w2 hkb) (fun _ k hk => by obtain ⟨a9, _, _, e9, rfl⟩ := hk; simp only [Value.slice.injEq, Option.some.injEq] at e9; rw [← e9.1])); clear hg2 hkb)
    | (go_at_call 34; (with_reducible refine (HOp.out _ _ R2.out.wrt).mono ?_); rintro e w3 hp; have he := hp.1; subst he; have R3 := Lib.hid (R2.out.call hp); have b3 := (R3.out.kept (blk_lt HB2.out) HNf.out).trans HB2.out; have d0 := cell_blk b3 0 rfl; have KB3 := Lib.hid (KB.out.upto hp.2.1 HKn.out); clear hp b3)
    | (go_at_call 35; (with_reducible refine (HIn.out _ _ R3.out.wrt).mono ?_); rintro e w4 hp; have he := hp.1; subst he; have R4 := Lib.hid (R3.out.call hp); have KB4 := Lib.hid (KB3.out.upto hp.2.1 (fun k hk hf => by subst hk; have h9 := R3.out.sub _ hf; rcases h9 with h9 | h9; exact HKn.out _ rfl h9; exact absurd h9.1 (by have := HK2.out; omega))); clear hp)
    | (go_at_call 40; (with_reducible refine (HOc.out _ _ _ _ _ R4.out.wrt KB4.out.now (Whole0.some _ _ _)).mono ?_); rintro e w5 hp; have he := hp.1; subst he; have R5 := Lib.hid (R4.out.call hp); have b5 := (R5.out.kept (blk_lt HB2.out) HNf.out).trans HB2.out; have d2 := cell_blk b5 2 rfl; clear hp b5)
    | (go_at_call 41; (with_reducible refine (HM1.out _ _ R5.out.wrt).mono ?_); rintro e w6 hp; have he := hp.1; subst he; have R6 := Lib.hid (R5.out.call hp); have b6 := (R6.out.kept (blk_lt HB2.out) HNf.out).trans HB2.out; have d3 := cell_blk b6 3 rfl; clear hp b6)
    | (go_at_call 41; (with_reducible refine (HM2.out _ _ R6.out.wrt).mono ?_); rintro e w7 hp; have he := hp.1; subst he; have R7 := Lib.hid (R6.out.call hp); clear hp)
    | (go_at_call 42; (with_reducible refine (HCl.out _ _ R7.out.wrt).mono ?_); rintro e w8 hp; have he := hp.1; subst he; have R8 := Lib.hid (R7.out.call hp); clear hp))
  go_returns
  exact R8.out.lift HX.out.own HX.out.base HG2.out
end Go.Proofs.YtihioekepflpiaaGreatDoor
namespace Go.Proofs.YtihioekepflpiaaGreatDoor
open Go.RowKit Bu
namespace Bu
def stA (s : De.St) (l : List An) (j : Nat) : De.St := (l.take j).foldl putAn (De.step s (wOpen 49))
def putAns (s : De.St) (l : List An) : De.St := De.step (l.foldl putAn (De.step s (wOpen 49))) wClose
def putBd (b : Bd) : De.St := De.step (putAns (De.step (De.step (De.step De.St.zero (wOpen 48)) (wInt b.v)) (wTxt 24 b.sp)) b.l) wClose
theorem stA_succ {s : De.St} {l : List An} {j : Nat} (h : j < l.length) : stA s l (j + 1) = putAn (stA s l j) (l.getD j an0) := by
  unfold stA
  rw [take_snoc h, List.foldl_append]
  rfl
theorem okL_at {l : List An} (h : okL l = true) : ∀ i, i < l.length → okAn (l.getD i an0) = true := by
  intro i hi
  unfold okL at h
  rw [Bool.and_eq_true] at h
  have := docA_upok l.length l 0 (by omega) (by omega) (by rw [docA_start]; exact h.2) i (Nat.zero_le _) hi
  unfold okAt at this
  rw [Bool.and_eq_true] at this
  exact this.1
theorem okAn_parts {a : An} (h : okAn a = true) : okKey a.k = true ∧ De.I64 a.g ∧ De.I64 a.f ∧ De.I64 a.t := by
  unfold okAn at h
  simp only [Bool.and_eq_true, decide_eq_true_eq] at h
  obtain ⟨h1, ⟨h2, h3⟩, h4, h5, h6⟩ := h
  exact ⟨h1, ⟨by omega, by omega⟩, ⟨by omega, by omega⟩, ⟨by omega, by omega⟩⟩
theorem key_bytes {k : ByteArray} (h : okKey k = true) : (kb k).length = 16 ∧ ∀ y ∈ kb k, y < 256 := by
  have hkk : (strL k).length = 32 ∧ hexOk (strL k) = true := by
    have : (decide ((strL k).length = 32) && hexOk (strL k)) = true := h
    rw [Bool.and_eq_true, decide_eq_true_eq] at this
    exact this
  refine ⟨?_, unhex_lt _ hkk.2⟩
  have := unhex_len (strL k)
  rw [hkk.1] at this
  exact this
end Bu
theorem putAn_good {m : Nat} {s : De.St} {x : An} (hg : GoodW m s) (hx : okAn x = true) : GoodW (m + 6) (putAn s x) := by
  have g1 := hg.step (wOpen 48) rfl (by simp [wOpen, De.none0])
  have g2 := g1.step (wInt x.g) rfl (by simp [wInt, De.none0])
  have g3 : GoodW (m + 1 + 1 + 1) (De.step (De.step (De.step s (wOpen 48)) (wInt x.g)) (wOct (kb x.k))) := ⟨g2.lim.step, De.good_step g2.good ⟨(key_bytes (okAn_parts hx).1).2, by simp [wOct, De.none0]⟩⟩
  have g4 := g3.step (wMom x.f) rfl (by simp [wMom, De.none0])
  have g5 := g4.step (wMom x.t) rfl (by simp [wMom, De.none0])
  exact (g5.step wClose rfl (by simp [wClose, De.none0])).mono (by omega)
theorem stA_good {m : Nat} {s : De.St} {l : List An} (h : GoodW m s) (hl : okL l = true) : ∀ (j : Nat), j ≤ l.length → GoodW (m + 1 + 6 * j) (stA s l j)
  | 0, _ => by unfold stA; rw [List.take_zero]; exact h.step (wOpen 49) rfl (by simp [wOpen, De.none0])
  | j + 1, hj => by
    rw [stA_succ (by omega)]
    exact (putAn_good (stA_good h hl j (by omega)) (okL_at hl j (by omega))).mono (by omega)
theorem Ans.of_upto {w0 w W : World} {F : Nat → Prop} {v : Value} {l : List An} (h : Ans w0 v l) (hg : w0.grownBy w none) (hF : ∀ k, F k → w0.heap.size ≤ k) (hu : Upto F w W) : Ans W v l := by
  obtain ⟨⟨h1, a, g, o, c, rfl, h2, h3⟩, h0⟩ := h
  have hs := hg.size
  have hs2 := hu.size
  refine ⟨⟨h1, a, g, o, c, rfl, fun hp => ⟨(h2 hp).1, by have := (h2 hp).2; omega⟩, fun j v hj => ?_⟩, h0⟩
  have hp : 0 < l.length := by
    rcases Nat.eq_zero_or_pos l.length with h9 | h9
    · rw [List.length_eq_zero_iff.1 h9] at hj; cases hj
    · exact h9
  have hb := (h2 hp).2
  rw [World.cell?_of_block ((hu.block g (by omega) (fun hf => by have := hF _ hf; omega)).trans (hg.block g hb (by simp)))]
  exact h3 j v hj
set_option maxRecDepth 100000 in
set_option maxHeartbeats 4000000 in
/-- der.Rows of a bundle's anchors. -/
theorem brows_any {A : Nat → Addr} {W0 w : World} {F : Nat → Prop} {b m : Nat} {s : De.St} (l : List An) (a : Option Addr) (n c : Nat) (h : PrW A W0 F b s w) (hA : BodiesOf A W0) (hg : GoodW m s) (hm : m ≤ 800) (hok : okL l = true) (hk : ∀ x ∈ l, x.k.size ≤ 1000) (hn : l.length = n) (hB : ∀ W, Upto F w W → Ans W (.slice a n c) l) :
    Calls Tryz.prog 37 #[.pointer (some ⟨b, 0, none⟩), .int .i64 49, .slice a n c, .func (.func 38) #[] #[]] w fun e w' => PrPost A W0 F b w w' (putAns s l) e := by
  have h8 : l.length ≤ 8 := by
    unfold okL at hok
    rw [Bool.and_eq_true, decide_eq_true_eq] at hok
    exact hok.1.2
  have hrow : putAns s l = De.step (stA s l n) { De.none0 with kind := 2 } := by unfold putAns stA; rw [← hn, List.take_length]; rfl
  rw [hrow]
  refine prRows_an h hA.errs 49 l a n c hn (by omega) hB 38 #[] (stA s l) (fun _ _ => by simp [go_sem]) ?_ (fun j F' W hj hW => ?_) (fun F' W hW => ?_)
  · unfold stA De.step
    rw [List.take_zero]
    by_cases he : s.e = 0
    · rw [List.foldl_nil, if_neg (by omega), if_pos he, if_pos (by rfl)]; rfl
    · rw [List.foldl_nil, if_pos he, if_neg he]
  · rw [stA_succ (by omega)]
    obtain ⟨k1, k2, k3, k4⟩ := okAn_parts (okL_at hok j (by omega))
    exact bput1_any _ hW hA (stA_good hg hok j (by omega)) (by omega) k1 k2 k3 k4 (hk _ (by rw [List.getD_eq_getElem?_getD, List.getElem?_eq_getElem (by omega)]; exact List.getElem_mem _))
  · have hgd := stA_good hg hok n (by omega)
    exact prClose_any hW hA.errs (hgd.lim.mono (by omega)) (fun p hp => (hgd.good.op p hp).1) _ rfl
end Go.Proofs.YtihioekepflpiaaGreatDoor
