import Derived.Test.YtpjhkmdlegjdaaaGreatDoorZw31
import Derived.Test.YtpjhkmdlegjdaaaGreatDoorZw32
import Derived.Test.YtpjhkmdlegjdaaaGreatDoorZw35
import Derived.Test.YtpjhkmdlegjdaaaGreatDoorZw41
import Derived.Test.YtpjhkmdlegjdaaaGreatDoorZw43
import Derived.Test.YtpjhkmdlegjdaaaGreatDoorZw48
set_option linter.unusedVariables false
set_option linter.unusedSimpArgs false
namespace Go.Proofs.YtpjhkmdlegjdaaaGreatDoor
open Go.RowKit
set_option linter.unusedVariables false
theorem PrW.new {A : Nat → Addr} {W0 w : World} (hb : W0.grownBy w none) :
    PrW A W0 (fun k => k = w.heap.size) w.heap.size De.St.zero (w.alloc (.cells #[.slice none 0 0, .slice none 0 0, .nilIface] 31)) := by
  have hs : (w.alloc (.cells #[.slice none 0 0, .slice none 0 0, .nilIface] 31)).heap.size = w.heap.size + 1 := alloc_size _ _
  have h0 := hb.size
  refine ⟨grown_alloc hb _, fun k hk => ⟨by rw [hk]; exact h0, by rw [hs, hk]; omega⟩, rfl, .slice none 0 0, .slice none 0 0, alloc_at w _, fun _ => ⟨0, fun _ => .slice none 0 0, rfl, by omega, fun k hk => ?_, by simp [Value.ownBlock], by simp [Value.ownBlock], fun j hj => absurd hj (by omega), fun i j hi => absurd hi (by omega), ⟨[], ⟨rfl, .inl ⟨rfl, rfl⟩⟩, fun j hj => absurd hj (by omega)⟩, ⟨rfl, .inl ⟨rfl, rfl⟩⟩, by simp [De.St.zero], fun j hj => absurd hj (by omega)⟩⟩
  rcases hk with hk | hk | hk | ⟨j, hj, hk⟩
  · exact hk
  · exact absurd hk (by simp [Value.ownBlock])
  · exact absurd hk (by simp [Value.ownBlock])
  · omega
theorem prOpen_step {A : Nat → Addr} {W0 w : World} {F : Nat → Prop} {b : Nat} {s : De.St} (h : PrW A W0 F b s w) (hA : BodiesOf A W0) (v : De.Val) (hk : v.kind = 1) :
    Calls Tryz.prog 29 #[.pointer (some ⟨b, 0, none⟩), .int .i64 v.n] w fun e w' => PrPost A W0 F b w w' (De.step s v) e := by
  have hst : De.step s v = if s.e = 0 then De.opn s v.n else s := by
    unfold De.step
    by_cases he : s.e = 0
    · rw [if_pos he, if_neg (fun h => h he), if_pos hk]
    · rw [if_neg he, if_pos he]
  rw [hst]
  exact prOpen_any h hA.errs v.n
set_option maxRecDepth 100000 in
set_option maxHeartbeats 1000000 in
theorem lput_Open {A : Nat → Addr} {W0 w : World} {F : Nat → Prop} {b : Nat} {s : De.St} (h : PrW A W0 F b s w) (hA : BodiesOf A W0) (hl : Lim 1000 s) (hm : ∀ p ∈ s.op, Tl.made (p.1 : Nat) = true) (x : De.Val) (hn : De.I64 x.n) (xa : Option Addr) (xn xc : Nat) (S : ByteArray) (hb : Bytes w (.slice xa xn xc) x.b) (h0 : Whole0 (.slice xa xn xc)) (hlen : x.b.length ≤ 1000000) (hS : strL S = x.t) (hz : S.size ≤ 1000) (hk : x.kind = 1) :
    Calls Tryz.prog 8 #[.pointer (some ⟨b, 0, none⟩), .agg #[.int .i64 1, .int .i64 x.n, .bool x.is, .slice xa xn xc, .string S]] w fun e w' => PrPost A W0 F b w w' (De.step s x) e := by
  have HX := Lib.hid h
  have HC : Hid (∀ W, W = w.alloc (.cells #[.int .i64 1, .int .i64 x.n, .bool x.is, .slice xa xn xc, .string S] 38) → Calls Tryz.prog 29 #[.pointer (some ⟨b, 0, none⟩), .int .i64 x.n] W fun e w' => PrPost A W0 F b w w' (De.step s x) e) := Lib.hid (fun W hW => by
    subst hW
    have hga := World.grownBy_alloc w (.cells #[.int .i64 1, .int .i64 x.n, .bool x.is, .slice xa xn xc, .string S] 38) none
    have HY := Lib.hid (HX.out.grow hga)
    exact (prOpen_step HY.out hA x hk).mono (fun e w' hp => HX.out.after hga hp))
  obtain ⟨T, hT⟩ : ∃ T, T = De.step s x := ⟨_, rfl⟩
  rw [← hT] at HC ⊢
  clear h hA hl hm hb hS hlen hT
  go_enter Tryz.func8, Tryz.ntmps8
  go_wp2_with (go_at_call 29; refine (HC.out _ rfl).mono ?_; rintro e w3 ⟨rfl, k1, k2⟩; have K1 := Lib.hid k1; have K2 := Lib.hid k2; clear k1 k2)
  go_returns
  exact ⟨rfl, K1.out, K2.out⟩
set_option maxRecDepth 100000 in
set_option maxHeartbeats 1000000 in
theorem lput_Close {A : Nat → Addr} {W0 w : World} {F : Nat → Prop} {b : Nat} {s : De.St} (h : PrW A W0 F b s w) (hA : BodiesOf A W0) (hl : Lim 1000 s) (hm : ∀ p ∈ s.op, Tl.made (p.1 : Nat) = true) (x : De.Val) (hn : De.I64 x.n) (xa : Option Addr) (xn xc : Nat) (S : ByteArray) (hb : Bytes w (.slice xa xn xc) x.b) (h0 : Whole0 (.slice xa xn xc)) (hlen : x.b.length ≤ 1000000) (hS : strL S = x.t) (hz : S.size ≤ 1000) (hk : x.kind = 2) :
    Calls Tryz.prog 8 #[.pointer (some ⟨b, 0, none⟩), .agg #[.int .i64 2, .int .i64 x.n, .bool x.is, .slice xa xn xc, .string S]] w fun e w' => PrPost A W0 F b w w' (De.step s x) e := by
  have HX := Lib.hid h
  have HC : Hid (∀ W, W = w.alloc (.cells #[.int .i64 2, .int .i64 x.n, .bool x.is, .slice xa xn xc, .string S] 38) → Calls Tryz.prog 30 #[.pointer (some ⟨b, 0, none⟩)] W fun e w' => PrPost A W0 F b w w' (De.step s x) e) := Lib.hid (fun W hW => by
    subst hW
    have hga := World.grownBy_alloc w (.cells #[.int .i64 2, .int .i64 x.n, .bool x.is, .slice xa xn xc, .string S] 38) none
    have HY := Lib.hid (HX.out.grow hga)
    exact (prClose_any HY.out hA.errs hl hm x hk).mono (fun e w' hp => HX.out.after hga hp))
  obtain ⟨T, hT⟩ : ∃ T, T = De.step s x := ⟨_, rfl⟩
  rw [← hT] at HC ⊢
  clear h hA hl hm hb hS hlen hT
  go_enter Tryz.func8, Tryz.ntmps8
  go_wp2_with (go_at_call 30; refine (HC.out _ rfl).mono ?_; rintro e w3 ⟨rfl, k1, k2⟩; have K1 := Lib.hid k1; have K2 := Lib.hid k2; clear k1 k2)
  go_returns
  exact ⟨rfl, K1.out, K2.out⟩
set_option maxRecDepth 100000 in
set_option maxHeartbeats 1000000 in
theorem lput_Int {A : Nat → Addr} {W0 w : World} {F : Nat → Prop} {b : Nat} {s : De.St} (h : PrW A W0 F b s w) (hA : BodiesOf A W0) (hl : Lim 1000 s) (hm : ∀ p ∈ s.op, Tl.made (p.1 : Nat) = true) (x : De.Val) (hn : De.I64 x.n) (xa : Option Addr) (xn xc : Nat) (S : ByteArray) (hb : Bytes w (.slice xa xn xc) x.b) (h0 : Whole0 (.slice xa xn xc)) (hlen : x.b.length ≤ 1000000) (hS : strL S = x.t) (hz : S.size ≤ 1000) (hk : x.kind = 3) :
    Calls Tryz.prog 8 #[.pointer (some ⟨b, 0, none⟩), .agg #[.int .i64 3, .int .i64 x.n, .bool x.is, .slice xa xn xc, .string S]] w fun e w' => PrPost A W0 F b w w' (De.step s x) e := by
  have HX := Lib.hid h
  have HC : Hid (∀ W, W = w.alloc (.cells #[.int .i64 3, .int .i64 x.n, .bool x.is, .slice xa xn xc, .string S] 38) → Calls Tryz.prog 33 #[.pointer (some ⟨b, 0, none⟩), .int .i64 x.n] W fun e w' => PrPost A W0 F b w w' (De.step s x) e) := Lib.hid (fun W hW => by
    subst hW
    have hga := World.grownBy_alloc w (.cells #[.int .i64 3, .int .i64 x.n, .bool x.is, .slice xa xn xc, .string S] 38) none
    have HY := Lib.hid (HX.out.grow hga)
    exact (prInt_any HY.out hA hl x hk hn).mono (fun e w' hp => HX.out.after hga hp))
  obtain ⟨T, hT⟩ : ∃ T, T = De.step s x := ⟨_, rfl⟩
  rw [← hT] at HC ⊢
  clear h hA hl hm hb hS hlen hT
  go_enter Tryz.func8, Tryz.ntmps8
  go_wp2_with (go_at_call 33; refine (HC.out _ rfl).mono ?_; rintro e w3 ⟨rfl, k1, k2⟩; have K1 := Lib.hid k1; have K2 := Lib.hid k2; clear k1 k2)
  go_returns
  exact ⟨rfl, K1.out, K2.out⟩
set_option maxRecDepth 100000 in
set_option maxHeartbeats 1000000 in
theorem lput_Enum {A : Nat → Addr} {W0 w : World} {F : Nat → Prop} {b : Nat} {s : De.St} (h : PrW A W0 F b s w) (hA : BodiesOf A W0) (hl : Lim 1000 s) (hm : ∀ p ∈ s.op, Tl.made (p.1 : Nat) = true) (x : De.Val) (hn : De.I64 x.n) (xa : Option Addr) (xn xc : Nat) (S : ByteArray) (hb : Bytes w (.slice xa xn xc) x.b) (h0 : Whole0 (.slice xa xn xc)) (hlen : x.b.length ≤ 1000000) (hS : strL S = x.t) (hz : S.size ≤ 1000) (hk : x.kind = 4) :
    Calls Tryz.prog 8 #[.pointer (some ⟨b, 0, none⟩), .agg #[.int .i64 4, .int .i64 x.n, .bool x.is, .slice xa xn xc, .string S]] w fun e w' => PrPost A W0 F b w w' (De.step s x) e := by
  have HX := Lib.hid h
  have HC : Hid (∀ W, W = w.alloc (.cells #[.int .i64 4, .int .i64 x.n, .bool x.is, .slice xa xn xc, .string S] 38) → Calls Tryz.prog 34 #[.pointer (some ⟨b, 0, none⟩), .int .i64 x.n] W fun e w' => PrPost A W0 F b w w' (De.step s x) e) := Lib.hid (fun W hW => by
    subst hW
    have hga := World.grownBy_alloc w (.cells #[.int .i64 4, .int .i64 x.n, .bool x.is, .slice xa xn xc, .string S] 38) none
    have HY := Lib.hid (HX.out.grow hga)
    exact (prEnum_any HY.out hA hl x hk hn).mono (fun e w' hp => HX.out.after hga hp))
  obtain ⟨T, hT⟩ : ∃ T, T = De.step s x := ⟨_, rfl⟩
  rw [← hT] at HC ⊢
  clear h hA hl hm hb hS hlen hT
  go_enter Tryz.func8, Tryz.ntmps8
  go_wp2_with (go_at_call 34; refine (HC.out _ rfl).mono ?_; rintro e w3 ⟨rfl, k1, k2⟩; have K1 := Lib.hid k1; have K2 := Lib.hid k2; clear k1 k2)
  go_returns
  exact ⟨rfl, K1.out, K2.out⟩
set_option maxRecDepth 100000 in
set_option maxHeartbeats 1000000 in
theorem lput_Bool {A : Nat → Addr} {W0 w : World} {F : Nat → Prop} {b : Nat} {s : De.St} (h : PrW A W0 F b s w) (hA : BodiesOf A W0) (hl : Lim 1000 s) (hm : ∀ p ∈ s.op, Tl.made (p.1 : Nat) = true) (x : De.Val) (hn : De.I64 x.n) (xa : Option Addr) (xn xc : Nat) (S : ByteArray) (hb : Bytes w (.slice xa xn xc) x.b) (h0 : Whole0 (.slice xa xn xc)) (hlen : x.b.length ≤ 1000000) (hS : strL S = x.t) (hz : S.size ≤ 1000) (hk : x.kind = 5) :
    Calls Tryz.prog 8 #[.pointer (some ⟨b, 0, none⟩), .agg #[.int .i64 5, .int .i64 x.n, .bool x.is, .slice xa xn xc, .string S]] w fun e w' => PrPost A W0 F b w w' (De.step s x) e := by
  have HX := Lib.hid h
  have HC : Hid (∀ W, W = w.alloc (.cells #[.int .i64 5, .int .i64 x.n, .bool x.is, .slice xa xn xc, .string S] 38) → Calls Tryz.prog 35 #[.pointer (some ⟨b, 0, none⟩), .bool x.is] W fun e w' => PrPost A W0 F b w w' (De.step s x) e) := Lib.hid (fun W hW => by
    subst hW
    have hga := World.grownBy_alloc w (.cells #[.int .i64 5, .int .i64 x.n, .bool x.is, .slice xa xn xc, .string S] 38) none
    have HY := Lib.hid (HX.out.grow hga)
    exact (prBool_any HY.out hA hl x hk hn).mono (fun e w' hp => HX.out.after hga hp))
  obtain ⟨T, hT⟩ : ∃ T, T = De.step s x := ⟨_, rfl⟩
  rw [← hT] at HC ⊢
  clear h hA hl hm hb hS hlen hT
  go_enter Tryz.func8, Tryz.ntmps8
  go_wp2_with (go_at_call 35; refine (HC.out _ rfl).mono ?_; rintro e w3 ⟨rfl, k1, k2⟩; have K1 := Lib.hid k1; have K2 := Lib.hid k2; clear k1 k2)
  go_returns
  exact ⟨rfl, K1.out, K2.out⟩
set_option maxRecDepth 100000 in
set_option maxHeartbeats 1000000 in
theorem lput_Octets {A : Nat → Addr} {W0 w : World} {F : Nat → Prop} {b : Nat} {s : De.St} (h : PrW A W0 F b s w) (hA : BodiesOf A W0) (hl : Lim 1000 s) (hm : ∀ p ∈ s.op, Tl.made (p.1 : Nat) = true) (x : De.Val) (hn : De.I64 x.n) (xa : Option Addr) (xn xc : Nat) (S : ByteArray) (hb : Bytes w (.slice xa xn xc) x.b) (h0 : Whole0 (.slice xa xn xc)) (hlen : x.b.length ≤ 1000000) (hS : strL S = x.t) (hz : S.size ≤ 1000) (hk : x.kind = 6) :
    Calls Tryz.prog 8 #[.pointer (some ⟨b, 0, none⟩), .agg #[.int .i64 6, .int .i64 x.n, .bool x.is, .slice xa xn xc, .string S]] w fun e w' => PrPost A W0 F b w w' (De.step s x) e := by
  have HX := Lib.hid h
  have HC : Hid (∀ W, W = w.alloc (.cells #[.int .i64 6, .int .i64 x.n, .bool x.is, .slice xa xn xc, .string S] 38) → Calls Tryz.prog 36 #[.pointer (some ⟨b, 0, none⟩), .slice xa xn xc] W fun e w' => PrPost A W0 F b w w' (De.step s x) e) := Lib.hid (fun W hW => by
    subst hW
    have hga := World.grownBy_alloc w (.cells #[.int .i64 6, .int .i64 x.n, .bool x.is, .slice xa xn xc, .string S] 38) none
    have HY := Lib.hid (HX.out.grow hga)
    exact (prOctets_any HY.out hA hl x hk xa xn xc (hb.grown hga) h0 hlen).mono (fun e w' hp => HX.out.after hga hp))
  obtain ⟨T, hT⟩ : ∃ T, T = De.step s x := ⟨_, rfl⟩
  rw [← hT] at HC ⊢
  clear h hA hl hm hb hS hlen hT
  go_enter Tryz.func8, Tryz.ntmps8
  go_wp2_with (go_at_call 36; refine (HC.out _ rfl).mono ?_; rintro e w3 ⟨rfl, k1, k2⟩; have K1 := Lib.hid k1; have K2 := Lib.hid k2; clear k1 k2)
  go_returns
  exact ⟨rfl, K1.out, K2.out⟩
set_option maxRecDepth 100000 in
set_option maxHeartbeats 1000000 in
theorem lput_Text {A : Nat → Addr} {W0 w : World} {F : Nat → Prop} {b : Nat} {s : De.St} (h : PrW A W0 F b s w) (hA : BodiesOf A W0) (hl : Lim 1000 s) (hm : ∀ p ∈ s.op, Tl.made (p.1 : Nat) = true) (x : De.Val) (hn : De.I64 x.n) (xa : Option Addr) (xn xc : Nat) (S : ByteArray) (hb : Bytes w (.slice xa xn xc) x.b) (h0 : Whole0 (.slice xa xn xc)) (hlen : x.b.length ≤ 1000000) (hS : strL S = x.t) (hz : S.size ≤ 1000) (hk : x.kind = 7) :
    Calls Tryz.prog 8 #[.pointer (some ⟨b, 0, none⟩), .agg #[.int .i64 7, .int .i64 x.n, .bool x.is, .slice xa xn xc, .string S]] w fun e w' => PrPost A W0 F b w w' (De.step s x) e := by
  have HX := Lib.hid h
  have HC : Hid (∀ W, W = w.alloc (.cells #[.int .i64 7, .int .i64 x.n, .bool x.is, .slice xa xn xc, .string S] 38) → Calls Tryz.prog 37 #[.pointer (some ⟨b, 0, none⟩), .string S, .int .i64 x.n] W fun e w' => PrPost A W0 F b w w' (De.step s x) e) := Lib.hid (fun W hW => by
    subst hW
    have hga := World.grownBy_alloc w (.cells #[.int .i64 7, .int .i64 x.n, .bool x.is, .slice xa xn xc, .string S] 38) none
    have HY := Lib.hid (HX.out.grow hga)
    exact (prText_any HY.out hA hl x hk hn S hS hz).mono (fun e w' hp => HX.out.after hga hp))
  obtain ⟨T, hT⟩ : ∃ T, T = De.step s x := ⟨_, rfl⟩
  rw [← hT] at HC ⊢
  clear h hA hl hm hb hS hlen hT
  go_enter Tryz.func8, Tryz.ntmps8
  go_wp2_with (go_at_call 37; refine (HC.out _ rfl).mono ?_; rintro e w3 ⟨rfl, k1, k2⟩; have K1 := Lib.hid k1; have K2 := Lib.hid k2; clear k1 k2)
  go_returns
  exact ⟨rfl, K1.out, K2.out⟩
set_option maxRecDepth 100000 in
set_option maxHeartbeats 1000000 in
theorem lput_OID {A : Nat → Addr} {W0 w : World} {F : Nat → Prop} {b : Nat} {s : De.St} (h : PrW A W0 F b s w) (hA : BodiesOf A W0) (hl : Lim 1000 s) (hm : ∀ p ∈ s.op, Tl.made (p.1 : Nat) = true) (x : De.Val) (hn : De.I64 x.n) (xa : Option Addr) (xn xc : Nat) (S : ByteArray) (hb : Bytes w (.slice xa xn xc) x.b) (h0 : Whole0 (.slice xa xn xc)) (hlen : x.b.length ≤ 1000000) (hS : strL S = x.t) (hz : S.size ≤ 1000) (hk : x.kind = 8) :
    Calls Tryz.prog 8 #[.pointer (some ⟨b, 0, none⟩), .agg #[.int .i64 8, .int .i64 x.n, .bool x.is, .slice xa xn xc, .string S]] w fun e w' => PrPost A W0 F b w w' (De.step s x) e := by
  have HX := Lib.hid h
  have HC : Hid (∀ W, W = w.alloc (.cells #[.int .i64 8, .int .i64 x.n, .bool x.is, .slice xa xn xc, .string S] 38) → Calls Tryz.prog 38 #[.pointer (some ⟨b, 0, none⟩), .string S] W fun e w' => PrPost A W0 F b w w' (De.step s x) e) := Lib.hid (fun W hW => by
    subst hW
    have hga := World.grownBy_alloc w (.cells #[.int .i64 8, .int .i64 x.n, .bool x.is, .slice xa xn xc, .string S] 38) none
    have HY := Lib.hid (HX.out.grow hga)
    exact (prOID_any HY.out hA hl x hk S hS hz).mono (fun e w' hp => HX.out.after hga hp))
  obtain ⟨T, hT⟩ : ∃ T, T = De.step s x := ⟨_, rfl⟩
  rw [← hT] at HC ⊢
  clear h hA hl hm hb hS hlen hT
  go_enter Tryz.func8, Tryz.ntmps8
  go_wp2_with (go_at_call 38; refine (HC.out _ rfl).mono ?_; rintro e w3 ⟨rfl, k1, k2⟩; have K1 := Lib.hid k1; have K2 := Lib.hid k2; clear k1 k2)
  go_returns
  exact ⟨rfl, K1.out, K2.out⟩
set_option maxRecDepth 100000 in
set_option maxHeartbeats 1000000 in
theorem lput_Moment {A : Nat → Addr} {W0 w : World} {F : Nat → Prop} {b : Nat} {s : De.St} (h : PrW A W0 F b s w) (hA : BodiesOf A W0) (hl : Lim 1000 s) (hm : ∀ p ∈ s.op, Tl.made (p.1 : Nat) = true) (x : De.Val) (hn : De.I64 x.n) (xa : Option Addr) (xn xc : Nat) (S : ByteArray) (hb : Bytes w (.slice xa xn xc) x.b) (h0 : Whole0 (.slice xa xn xc)) (hlen : x.b.length ≤ 1000000) (hS : strL S = x.t) (hz : S.size ≤ 1000) (hk : x.kind = 9) :
    Calls Tryz.prog 8 #[.pointer (some ⟨b, 0, none⟩), .agg #[.int .i64 9, .int .i64 x.n, .bool x.is, .slice xa xn xc, .string S]] w fun e w' => PrPost A W0 F b w w' (De.step s x) e := by
  have HX := Lib.hid h
  have HC : Hid (∀ W, W = w.alloc (.cells #[.int .i64 9, .int .i64 x.n, .bool x.is, .slice xa xn xc, .string S] 38) → Calls Tryz.prog 39 #[.pointer (some ⟨b, 0, none⟩), .int .i64 x.n] W fun e w' => PrPost A W0 F b w w' (De.step s x) e) := Lib.hid (fun W hW => by
    subst hW
    have hga := World.grownBy_alloc w (.cells #[.int .i64 9, .int .i64 x.n, .bool x.is, .slice xa xn xc, .string S] 38) none
    have HY := Lib.hid (HX.out.grow hga)
    exact (prMoment_any HY.out hA hl x hk hn).mono (fun e w' hp => HX.out.after hga hp))
  obtain ⟨T, hT⟩ : ∃ T, T = De.step s x := ⟨_, rfl⟩
  rw [← hT] at HC ⊢
  clear h hA hl hm hb hS hlen hT
  go_enter Tryz.func8, Tryz.ntmps8
  go_wp2_with (go_at_call 39; refine (HC.out _ rfl).mono ?_; rintro e w3 ⟨rfl, k1, k2⟩; have K1 := Lib.hid k1; have K2 := Lib.hid k2; clear k1 k2)
  go_returns
  exact ⟨rfl, K1.out, K2.out⟩
set_option maxRecDepth 100000 in
set_option maxHeartbeats 1000000 in
theorem lput_Raw {A : Nat → Addr} {W0 w : World} {F : Nat → Prop} {b : Nat} {s : De.St} (h : PrW A W0 F b s w) (hA : BodiesOf A W0) (hl : Lim 1000 s) (hm : ∀ p ∈ s.op, Tl.made (p.1 : Nat) = true) (x : De.Val) (hn : De.I64 x.n) (xa : Option Addr) (xn xc : Nat) (S : ByteArray) (hb : Bytes w (.slice xa xn xc) x.b) (h0 : Whole0 (.slice xa xn xc)) (hlen : x.b.length ≤ 1000000) (hS : strL S = x.t) (hz : S.size ≤ 1000) (hk : x.kind = 11) :
    Calls Tryz.prog 8 #[.pointer (some ⟨b, 0, none⟩), .agg #[.int .i64 11, .int .i64 x.n, .bool x.is, .slice xa xn xc, .string S]] w fun e w' => PrPost A W0 F b w w' (De.step s x) e := by
  have HX := Lib.hid h
  have HC : Hid (∀ W, W = w.alloc (.cells #[.int .i64 11, .int .i64 x.n, .bool x.is, .slice xa xn xc, .string S] 38) → Calls Tryz.prog 40 #[.pointer (some ⟨b, 0, none⟩), .slice xa xn xc] W fun e w' => PrPost A W0 F b w w' (De.step s x) e) := Lib.hid (fun W hW => by
    subst hW
    have hga := World.grownBy_alloc w (.cells #[.int .i64 11, .int .i64 x.n, .bool x.is, .slice xa xn xc, .string S] 38) none
    have HY := Lib.hid (HX.out.grow hga)
    exact (prRaw_any HY.out hA.errs hl x hk xa xn xc (hb.grown hga) h0 hlen).mono (fun e w' hp => HX.out.after hga hp))
  obtain ⟨T, hT⟩ : ∃ T, T = De.step s x := ⟨_, rfl⟩
  rw [← hT] at HC ⊢
  clear h hA hl hm hb hS hlen hT
  go_enter Tryz.func8, Tryz.ntmps8
  go_wp2_with (go_at_call 40; refine (HC.out _ rfl).mono ?_; rintro e w3 ⟨rfl, k1, k2⟩; have K1 := Lib.hid k1; have K2 := Lib.hid k2; clear k1 k2)
  go_returns
  exact ⟨rfl, K1.out, K2.out⟩
set_option maxRecDepth 100000 in
set_option maxHeartbeats 1000000 in
theorem lput_Flags {A : Nat → Addr} {W0 w : World} {F : Nat → Prop} {b : Nat} {s : De.St} (h : PrW A W0 F b s w) (hA : BodiesOf A W0) (hl : Lim 1000 s) (hm : ∀ p ∈ s.op, Tl.made (p.1 : Nat) = true) (x : De.Val) (hn : De.I64 x.n) (xa : Option Addr) (xn xc : Nat) (S : ByteArray) (hb : Bytes w (.slice xa xn xc) x.b) (h0 : Whole0 (.slice xa xn xc)) (hlen : x.b.length ≤ 1000000) (hS : strL S = x.t) (hz : S.size ≤ 1000) (hk : ¬ ((1 ≤ x.kind ∧ x.kind ≤ 9) ∨ x.kind = 11)) :
    Calls Tryz.prog 8 #[.pointer (some ⟨b, 0, none⟩), .agg #[.int .i64 x.kind, .int .i64 x.n, .bool x.is, .slice xa xn xc, .string S]] w fun e w' => PrPost A W0 F b w w' (De.step s x) e := by
  have HX := Lib.hid h
  have z1 : (x.kind == 1) = false := beq_eq_false_iff_ne.2 (by omega)
  have z2 : (x.kind == 2) = false := beq_eq_false_iff_ne.2 (by omega)
  have z3 : (x.kind == 3) = false := beq_eq_false_iff_ne.2 (by omega)
  have z4 : (x.kind == 4) = false := beq_eq_false_iff_ne.2 (by omega)
  have z5 : (x.kind == 5) = false := beq_eq_false_iff_ne.2 (by omega)
  have z6 : (x.kind == 6) = false := beq_eq_false_iff_ne.2 (by omega)
  have z7 : (x.kind == 7) = false := beq_eq_false_iff_ne.2 (by omega)
  have z8 : (x.kind == 8) = false := beq_eq_false_iff_ne.2 (by omega)
  have z9 : (x.kind == 9) = false := beq_eq_false_iff_ne.2 (by omega)
  have z11 : (x.kind == 11) = false := beq_eq_false_iff_ne.2 (by omega)
  have HC : Hid (∀ W, W = w.alloc (.cells #[.int .i64 x.kind, .int .i64 x.n, .bool x.is, .slice xa xn xc, .string S] 38) → Calls Tryz.prog 41 #[.pointer (some ⟨b, 0, none⟩), .int .i64 x.n] W fun e w' => PrPost A W0 F b w w' (De.step s x) e) := Lib.hid (fun W hW => by
    subst hW
    have hga := World.grownBy_alloc w (.cells #[.int .i64 x.kind, .int .i64 x.n, .bool x.is, .slice xa xn xc, .string S] 38) none
    have HY := Lib.hid (HX.out.grow hga)
    exact (prFlags_any HY.out hA hl x (by omega) hn).mono (fun e w' hp => HX.out.after hga hp))
  obtain ⟨T, hT⟩ : ∃ T, T = De.step s x := ⟨_, rfl⟩
  rw [← hT] at HC ⊢
  clear h hA hl hm hb hS hlen hT
  go_enter Tryz.func8, Tryz.ntmps8
  go_wp2_with (go_at_call 41; refine (HC.out _ rfl).mono ?_; rintro e w3 ⟨rfl, k1, k2⟩; have K1 := Lib.hid k1; have K2 := Lib.hid k2; clear k1 k2)
  go_returns
  exact ⟨rfl, K1.out, K2.out⟩
/-- The law's put: a value's step. -/
theorem lput_any {A : Nat → Addr} {W0 w : World} {F : Nat → Prop} {b : Nat} {s : De.St} (h : PrW A W0 F b s w) (hA : BodiesOf A W0) (hl : Lim 1000 s) (hm : ∀ p ∈ s.op, Tl.made (p.1 : Nat) = true) (v : Value) (x : De.Val) (hn : De.I64 x.n) (hv : ValV w v x) (hlen : x.b.length ≤ 1000000) :
    Calls Tryz.prog 8 #[.pointer (some ⟨b, 0, none⟩), v] w fun e w' => PrPost A W0 F b w w' (De.step s x) e := by
  obtain ⟨bv, S, rfl, hb, h0, hS, hz⟩ := hv
  obtain ⟨xa, xn, xc, rfl⟩ : ∃ xa xn xc, bv = .slice xa xn xc := by
    obtain ⟨_, a, _, _, c, rfl, _⟩ := hb
    exact ⟨a, _, c, rfl⟩
  by_cases k1 : x.kind = 1
  · have := lput_Open h hA hl hm x hn xa xn xc S hb h0 hlen hS hz k1
    rw [k1]
    exact this
  by_cases k2 : x.kind = 2
  · have := lput_Close h hA hl hm x hn xa xn xc S hb h0 hlen hS hz k2
    rw [k2]
    exact this
  by_cases k3 : x.kind = 3
  · have := lput_Int h hA hl hm x hn xa xn xc S hb h0 hlen hS hz k3
    rw [k3]
    exact this
  by_cases k4 : x.kind = 4
  · have := lput_Enum h hA hl hm x hn xa xn xc S hb h0 hlen hS hz k4
    rw [k4]
    exact this
  by_cases k5 : x.kind = 5
  · have := lput_Bool h hA hl hm x hn xa xn xc S hb h0 hlen hS hz k5
    rw [k5]
    exact this
  by_cases k6 : x.kind = 6
  · have := lput_Octets h hA hl hm x hn xa xn xc S hb h0 hlen hS hz k6
    rw [k6]
    exact this
  by_cases k7 : x.kind = 7
  · have := lput_Text h hA hl hm x hn xa xn xc S hb h0 hlen hS hz k7
    rw [k7]
    exact this
  by_cases k8 : x.kind = 8
  · have := lput_OID h hA hl hm x hn xa xn xc S hb h0 hlen hS hz k8
    rw [k8]
    exact this
  by_cases k9 : x.kind = 9
  · have := lput_Moment h hA hl hm x hn xa xn xc S hb h0 hlen hS hz k9
    rw [k9]
    exact this
  by_cases k11 : x.kind = 11
  · have := lput_Raw h hA hl hm x hn xa xn xc S hb h0 hlen hS hz k11
    rw [k11]
    exact this
  exact lput_Flags h hA hl hm x hn xa xn xc S hb h0 hlen hS hz (by omega)
theorem alive8_state : De.step (De.step (De.step De.St.zero ⟨1, 48, false, [], []⟩) ⟨3, 5, false, [], []⟩) ⟨2, 0, false, [], []⟩ = ⟨0, [], [[48, 3, 2, 1, 5]]⟩ := by kernel_rfl
theorem alive8_mid : De.step (De.step De.St.zero ⟨1, 48, false, [], []⟩) ⟨3, 5, false, [], []⟩ = ⟨0, [(48, [[2, 1, 5]])], []⟩ := by kernel_rfl
set_option maxRecDepth 100000 in
set_option maxHeartbeats 1000000 in
theorem alive8_any (A : Nat → Addr) (w : World) (hA : BodiesOf A w) : Calls Tryz.prog 6 #[] w fun e w' => e = .returned (.bool true) ∧ w.grownBy w' none := by
  have HA := Lib.hid hA
  have h0 : PrW A w (fun k => k = w.heap.size) w.heap.size De.St.zero (w.alloc (.cells #[.slice none 0 0, .slice none 0 0, .nilIface] 31)) := PrW.new (grown_refl _ _)
  have H1 := Lib.hid (prOpen_step h0 hA ⟨1, 48, false, [], []⟩ rfl)
  have L0 := Lim.zero
  have hL1 : Hid (Lim 1000 (De.step De.St.zero ⟨1, 48, false, [], []⟩)) := Lib.hid (L0.step.mono (by decide))
  have hL2 : Hid (Lim 1000 (De.step (De.step De.St.zero ⟨1, 48, false, [], []⟩) ⟨3, 5, false, [], []⟩)) := Lib.hid (L0.step.step.mono (by decide))
  have hL3 : Hid (Lim 1000 (De.step (De.step (De.step De.St.zero ⟨1, 48, false, [], []⟩) ⟨3, 5, false, [], []⟩) ⟨2, 0, false, [], []⟩)) := Lib.hid (L0.step.step.step.mono (by decide))
  have hMd : Hid (∀ p ∈ (De.step (De.step De.St.zero ⟨1, 48, false, [], []⟩) ⟨3, 5, false, [], []⟩).op, Tl.made (p.1 : Nat) = true) := Lib.hid (by rw [alive8_mid]; simp; decide)
  have k1 : ((strOf [48, 3, 2, 1, 5]).toList == [48, 3, 2, 1, 5]) = true := by decide +kernel
  have HD : Hid (De.done (De.step (De.step (De.step De.St.zero ⟨1, 48, false, [], []⟩) ⟨3, 5, false, [], []⟩) ⟨2, 0, false, [], []⟩) = .ok [48, 3, 2, 1, 5]) := Lib.hid (by rw [alive8_state]; kernel_rfl)
  obtain ⟨S1, hS1⟩ : ∃ S, S = De.step De.St.zero ⟨1, 48, false, [], []⟩ := ⟨_, rfl⟩
  obtain ⟨S2, hS2⟩ : ∃ S, S = De.step S1 ⟨3, 5, false, [], []⟩ := ⟨_, rfl⟩
  obtain ⟨S3, hS3⟩ : ∃ S, S = De.step S2 ⟨2, 0, false, [], []⟩ := ⟨_, rfl⟩
  rw [← hS1] at H1 hL1 hL2 hL3 hMd HD
  rw [← hS2] at hL2 hL3 hMd HD
  rw [← hS3] at hL3 HD
  have HI : Hid (∀ F W, PrW A w F w.heap.size S1 W → Calls Tryz.prog 33 #[.pointer (some ⟨w.heap.size, 0, none⟩), .int .i64 5] W fun e w' => PrPost A w F w.heap.size W w' S2 e) := Lib.hid (fun F W h => by rw [hS2]; exact prInt_any h hA hL1.out ⟨3, 5, false, [], []⟩ rfl ⟨by decide, by decide⟩)
  have HCl : Hid (∀ F W, PrW A w F w.heap.size S2 W → Calls Tryz.prog 30 #[.pointer (some ⟨w.heap.size, 0, none⟩)] W fun e w' => PrPost A w F w.heap.size W w' S3 e) := Lib.hid (fun F W h => by rw [hS3]; exact prClose_any h hA.errs hL2.out hMd.out ⟨2, 0, false, [], []⟩ rfl)
  have HDn : Hid (∀ F W, PrW A w F w.heap.size S3 W → Calls Tryz.prog 10 #[.pointer (some ⟨w.heap.size, 0, none⟩)] W fun e w' => W.grownBy w' none ∧ ∃ a c, e = .returned (.tuple #[.slice a 5 c, .nilIface]) ∧ Bytes w' (.slice a 5 c) [48, 3, 2, 1, 5]) := Lib.hid (fun F W h => (prDone_any h hA.errs hL3.out).mono (fun e w' hp => by
    rw [HD.out] at hp
    obtain ⟨g1, a, c, g2, g3, _⟩ := hp
    exact ⟨g1, a, c, g2, g3⟩))
  clear hA h0 L0 hL1 hL2 hL3 hMd hS1 hS2 hS3 HD
  go_enter Tryz.func6, Tryz.ntmps6
  go_wp2_with (first
    | (go_at_call 29; refine H1.out.mono ?_; rintro e w3 ⟨rfl, k1, k2⟩; have K1 := Lib.hid k2; clear k1 k2)
    | (go_at_call 33; refine (HI.out _ _ K1.out).mono ?_; rintro e w4 ⟨rfl, k1, k2⟩; have K2 := Lib.hid k2; clear k1 k2)
    | (go_at_call 30; refine (HCl.out _ _ K2.out).mono ?_; rintro e w5 ⟨rfl, k1, k2⟩; have K3 := Lib.hid k2; clear k1 k2)
    | (go_at_call 10; refine (HDn.out _ _ K3.out).mono ?_; rintro e w6 ⟨hg6, a, c, rfl, hB6⟩; have G6 : Hid (w.grownBy w6 none) := Lib.hid (grown_join K3.out.base hg6); have c1 := conv_bytes (P := Tryz.prog) hB6 27 5 9 Tryz.underlying27 Tryz.underlying5 Tryz.underlying9; clear hg6 hB6))
  go_ret
  exact ⟨retBo (by simp), G6.out⟩
end Go.Proofs.YtpjhkmdlegjdaaaGreatDoor
namespace Go.Proofs.YtpjhkmdlegjdaaaGreatDoor
open Go.RowKit
set_option linter.unusedVariables false
theorem bytes_nil0 (w : World) : Bytes w (.slice none 0 0) [] := ⟨by simp, none, 0, 0, 0, rfl, Nat.le_refl _, fun h => absurd h (Nat.lt_irrefl _), fun j hj => absurd hj (Nat.not_lt_zero _)⟩
/-- What long answers: where it says no, the values are few and small. -/
def LongPost (w w' : World) (n : Nat) (xs : List De.Val) (e : Ending) : Prop := ∃ q : Bool, e = .returned (.bool q) ∧ w.grownBy w' none ∧ (q = false → n ≤ 60 ∧ ∀ j, j < n → (xs.getD j De.none0).b.length ≤ 300 ∧ (xs.getD j De.none0).t.length ≤ 300)
set_option maxRecDepth 100000 in
set_option maxHeartbeats 1000000 in
theorem long_any (a : Option Addr) (sb so n c : Nat) (xs : List De.Val) (w : World) (hn : xs.length = n) (ha : 0 < n → a = some ⟨sb, so, none⟩ ∧ sb < w.heap.size) (hV : ValsAt w sb so xs) (hc : n ≤ 9223372036854775807) (hcc : n ≤ c) :
    Calls Tryz.prog 7 #[.slice a n c] w fun e w' => LongPost w w' n xs e := by
  have HV : Hid (∀ W, w.grownBy W none → ∀ j, j < n → a = some ⟨sb, so, none⟩ ∧ ∃ va vc S, W.cell? ⟨sb, so + j * 5, none⟩ = some (.int .i64 (xs.getD j De.none0).kind) ∧ W.cell? ⟨sb, so + j * 5 + 1, none⟩ = some (.int .i64 (xs.getD j De.none0).n) ∧ W.cell? ⟨sb, so + j * 5 + 2, none⟩ = some (.bool (xs.getD j De.none0).is) ∧
      W.cell? ⟨sb, so + j * 5 + 3, none⟩ = some (.slice va (xs.getD j De.none0).b.length vc) ∧ W.cell? ⟨sb, so + j * 5 + 4, none⟩ = some (.string S) ∧ S.size = (xs.getD j De.none0).t.length) := Lib.hid (fun W hW j hj => by
    obtain ⟨v, S, h0, h1, h2, h3, h4, h5, h6, h7, _⟩ := (hV.grown hW (fun h => (ha (by omega)).2)) j (by omega)
    obtain ⟨_, va, _, _, vc, rfl, _⟩ := h5
    exact ⟨(ha (by omega)).1, va, vc, S, h0, h1, h2, h3, h4, by rw [← h7, strL_len]⟩)
  clear hV
  by_cases h60 : 60 < n
  · clear HV hn ha
    go_enter Tryz.func7, Tryz.ntmps7
    go_wp2
    go_ret
    exact ⟨true, rfl, grown_refl _ _, fun h => by cases h⟩
  · clear ha
    go_enter Tryz.func7, Tryz.ntmps7
    go_wp2
    go_loopw [10] (fun i wr => ∃ j : Nat, j ≤ n ∧ i = .int .i64 j ∧ w.grownBy wr none ∧ ∀ k, k < j → (xs.getD k De.none0).b.length ≤ 300 ∧ (xs.getD k De.none0).t.length ≤ 300) (fun i _ => n - (intOf i).toNat)
    case atStart => exact ⟨0, Nat.zero_le _, rfl, grown_refl _ _, fun k hk => absurd hk (Nat.not_lt_zero _)⟩
    case round =>
      obtain ⟨j, hj, rfl, hg, hall⟩ := hrel
      have HG := Lib.hid hg
      have HAl := Lib.hid hall
      by_cases hjn : j < n
      · obtain ⟨rfl, va, vc, S, c0, c1, c2, c3, c4, hS⟩ := HV.out wr hg j hjn
        have HS := Lib.hid hS
        have hsbl : sb < wr.heap.size := World.block_lt_of_cell? wr _ c0
        obtain ⟨bl, hbl⟩ : ∃ bl, bl = (xs.getD j De.none0).b.length := ⟨_, rfl⟩
        obtain ⟨tl, htl⟩ : ∃ tl, tl = S.size := ⟨_, rfl⟩
        have HBl := Lib.hid hbl
        have HTl := Lib.hid htl
        rw [← hbl] at c3
        have HGa : Hid (∀ o, w.grownBy (wr.alloc o) none) := Lib.hid (fun o => grown_alloc hg o)
        generalize (xs.getD j De.none0).kind = kd at c0
        generalize (xs.getD j De.none0).n = nn at c1
        generalize (xs.getD j De.none0).is = is at c2
        clear hg hall hS hbl
        by_cases hb : 300 < bl
        · clear htl
          go_wp2
          go_ret
          exact ⟨true, rfl, HGa.out _, fun h => by cases h⟩
        · by_cases ht : 300 < S.size
          · clear htl
            go_wp2
            go_ret
            exact ⟨true, rfl, HGa.out _, fun h => by cases h⟩
          · have HB := Lib.hid hb
            have HT := Lib.hid ht
            clear htl
            go_wp2
            go_roundw
            case rel => exact ⟨j + 1, by omega, by go_num, HGa.out _, fun k hk => by
              by_cases e : k = j
              · subst e
                have h1 := HB.out
                have h2 := HT.out
                have h3 := HBl.out
                have h4 := HS.out
                omega
              · exact HAl.out k (by omega)⟩
            case measure => simp [intOf]; omega
      · obtain rfl : j = n := by omega
        clear hg hall
        go_wp2
        go_ret
        exact ⟨false, rfl, HG.out, fun _ => ⟨by omega, HAl.out⟩⟩
/-- Both writers, the same calls behind each; B: blocks that neither turns. -/
def TwoW (A : Nat → Addr) (W0 : World) (b1 b2 : Nat) (B : Nat → Prop) (s t : De.St) (w : World) : Prop :=
  ∃ F1 F2, PrW A W0 F1 b1 s w ∧ RefW W0 F2 b2 t w ∧ Apart F1 F2 ∧ ∀ k, B k → k < w.heap.size ∧ ¬ F1 k ∧ ¬ F2 k
section
variable {A : Nat → Addr} {W0 w w' : World} {b1 b2 : Nat} {B : Nat → Prop} {s t : De.St}
theorem TwoW.base (h : TwoW A W0 b1 b2 B s t w) : W0.grownBy w none := by
  obtain ⟨F1, F2, h1, _⟩ := h
  exact h1.base
theorem TwoW.still (h : TwoW A W0 b1 b2 B s t w) (hg : w.grownBy w' none) : TwoW A W0 b1 b2 B s t w' := by
  obtain ⟨F1, F2, h1, h2, h3, h4⟩ := h
  exact ⟨F1, F2, h1.still hg, h2.still hg, h3, fun k hk => ⟨Nat.lt_of_lt_of_le (h4 k hk).1 hg.size, (h4 k hk).2⟩⟩
theorem TwoW.keep (h : TwoW A W0 b1 b2 B s t w) (hg : w.grownBy w' none) : TwoW A W0 b1 b2 (fun k => w.heap.size ≤ k ∧ k < w'.heap.size) s t w' := by
  obtain ⟨F1, F2, h1, h2, h3, h4⟩ := h
  refine ⟨F1, F2, h1.still hg, h2.still hg, h3, fun k hk => ⟨hk.2, fun hf => ?_, fun hf => ?_⟩⟩
  · have := (h1.own k hf).2; omega
  · have := (h2.own k hf).2; omega
theorem TwoW.less {B' : Nat → Prop} (h : TwoW A W0 b1 b2 B s t w) (hB : ∀ k, B' k → B k) : TwoW A W0 b1 b2 B' s t w := by
  obtain ⟨F1, F2, h1, h2, h3, h4⟩ := h
  exact ⟨F1, F2, h1, h2, h3, fun k hk => h4 k (hB k hk)⟩
theorem turn_ext {F : Nat → Prop} (h : Upto F w w') : Turn F (Ext F w w') w w' := ⟨h, fun k hk hf => by
  rcases hf with hf | hf
  · exact hf
  · omega⟩
theorem TwoW.first {v : Value} {s' : De.St} (h : TwoW A W0 b1 b2 B s t w) (f : ∀ F, PrW A W0 F b1 s w → Calls Tryz.prog 8 #[.pointer (some ⟨b1, 0, none⟩), v] w fun e w' => PrPost A W0 F b1 w w' s' e) :
    Calls Tryz.prog 8 #[.pointer (some ⟨b1, 0, none⟩), v] w fun e w' => e = .returned (.tuple #[]) ∧ TwoW A W0 b1 b2 B s' t w' ∧ ∀ k, B k → w'.heap[k]? = w.heap[k]? := by
  obtain ⟨F1, F2, h1, h2, h3, h4⟩ := h
  refine (f F1 h1).mono (fun e w' hp => ?_)
  obtain ⟨q1, q2, q3⟩ := hp
  have hsz := q2.size
  refine ⟨q1, ⟨_, F2, q3, h2.other (fun k hk => (h1.own k hk).1) (turn_ext q2) h3, fun k hk hf => ?_, fun k hk => ⟨Nat.lt_of_lt_of_le (h4 k hk).1 hsz, fun hf => ?_, (h4 k hk).2.2⟩⟩, fun k hk => q2.block k (h4 k hk).1 (h4 k hk).2.1⟩
  · rcases hk with hk | hk
    · exact h3 k hk hf
    · have := (h2.own k hf).2; omega
  · rcases hf with hf | hf
    · exact (h4 k hk).2.1 hf
    · have := (h4 k hk).1; omega
theorem TwoW.second {v : Value} {t' : De.St} (h : TwoW A W0 b1 b2 B s t w) (f : ∀ F, RefW W0 F b2 t w → Calls Tryz.prog 9 #[.pointer (some ⟨b2, 0, none⟩), v] w fun e w' => e = .returned (.tuple #[]) ∧ Upto F w w' ∧ RefW W0 (Ext F w w') b2 t' w') :
    Calls Tryz.prog 9 #[.pointer (some ⟨b2, 0, none⟩), v] w fun e w' => e = .returned (.tuple #[]) ∧ TwoW A W0 b1 b2 B s t' w' ∧ ∀ k, B k → w'.heap[k]? = w.heap[k]? := by
  obtain ⟨F1, F2, h1, h2, h3, h4⟩ := h
  refine (f F2 h2).mono (fun e w' hp => ?_)
  obtain ⟨q1, q2, q3⟩ := hp
  have hsz := q2.size
  refine ⟨q1, ⟨F1, _, h1.other (fun k hk => (h2.own k hk).1) (turn_ext q2) h3.symm, q3, fun k hk hf => ?_, fun k hk => ⟨Nat.lt_of_lt_of_le (h4 k hk).1 hsz, (h4 k hk).2.1, fun hf => ?_⟩⟩, fun k hk => q2.block k (h4 k hk).1 (h4 k hk).2.2⟩
  · rcases hf with hf | hf
    · exact h3 k hk hf
    · have := (h1.own k hk).2; omega
  · rcases hf with hf | hf
    · exact (h4 k hk).2.2 hf
    · have := (h4 k hk).1; omega
end
end Go.Proofs.YtpjhkmdlegjdaaaGreatDoor
namespace Go.Proofs.YtpjhkmdlegjdaaaGreatDoor
open Go.RowKit
set_option linter.unusedVariables false
theorem BodiesOf.grown {A : Nat → Addr} {w w' : World} (h : BodiesOf A w) (hg : w.grownBy w' none) : BodiesOf A w' :=
  ⟨h.errs.grown hg, fun s m W h1 h2 h3 => h.texts s m W h1 h2 (grown_trans hg h3), fun m W h1 h2 => h.flags m W h1 (grown_trans hg h2), fun t W h1 h2 => h.moment t W h1 (grown_trans hg h2), fun s W h1 h2 => h.oid s W h1 (grown_trans hg h2)⟩
theorem done_ok {s : De.St} {l : List Nat} (h : De.done s = .ok l) : l = s.dn.flatten := by
  unfold De.done at h
  split at h
  · cases h
  · split at h
    · cases h
    · split at h
      · cases h
      · exact (Except.ok.inj h).symm
/-- Both writers at first. -/
theorem TwoW.new {A : Nat → Addr} {w : World} : TwoW A w w.heap.size (w.heap.size + 1) (fun _ => False) De.St.zero De.St.zero
    ((w.alloc (.cells #[.slice none 0 0, .slice none 0 0, .nilIface] 31)).alloc (.cells #[.slice none 0 0, .slice none 0 0, .int .i64 0] 36)) := by
  have h1 : PrW A w (fun k => k = w.heap.size) w.heap.size De.St.zero (w.alloc (.cells #[.slice none 0 0, .slice none 0 0, .nilIface] 31)) := PrW.new (grown_refl _ _)
  have h2 := RefW.new (W0 := w) h1.base
  rw [alloc_size] at h2
  refine ⟨_, _, h1.still (World.grownBy_alloc _ _ _), h2, fun k hk hk2 => ?_, fun k hk => hk.elim⟩
  have : k = w.heap.size := hk
  have : k = w.heap.size + 1 := hk2
  omega
/-- A value that a list holds, in any later world. -/
structure OneV (sb so : Nat) (x : De.Val) (j : Nat) (va : Option Addr) (bl : Nat) (vc : Nat) (S : ByteArray) (W : World) : Prop where
  c0 : W.cell? ⟨sb, so + j * 5, none⟩ = some (.int .i64 x.kind)
  c1 : W.cell? ⟨sb, so + j * 5 + 1, none⟩ = some (.int .i64 x.n)
  c2 : W.cell? ⟨sb, so + j * 5 + 2, none⟩ = some (.bool x.is)
  c3 : W.cell? ⟨sb, so + j * 5 + 3, none⟩ = some (.slice va bl vc)
  c4 : W.cell? ⟨sb, so + j * 5 + 4, none⟩ = some (.string S)
theorem oneV {w : World} {sb so j : Nat} {xs : List De.Val} (hV : ValsAt w sb so xs) (hj : j < xs.length) (h300 : (xs.getD j De.none0).t.length ≤ 300) (hsb : sb < w.heap.size) :
    ∃ va bl vc S, (∀ W, w.grownBy W none → OneV sb so (xs.getD j De.none0) j va bl vc S W ∧ ValV W (.agg #[.int .i64 (xs.getD j De.none0).kind, .int .i64 (xs.getD j De.none0).n, .bool (xs.getD j De.none0).is, .slice va bl vc, .string S]) (xs.getD j De.none0)) ∧ De.I64 (xs.getD j De.none0).n ∧ De.Byt (xs.getD j De.none0) := by
  obtain ⟨v, S, h0, h1, h2, h3, h4, h5, h6, h7, h8, h9⟩ := hV j hj
  have hlt := h5.lt
  have h5' := h5
  obtain ⟨_, va, _, _, vc, rfl, _⟩ := h5
  refine ⟨va, (xs.getD j De.none0).b.length, vc, S, ?_, h9, hlt, by rw [← h7]; exact strL_lt S⟩
  intro W hW
  have e : ∀ o, W.cell? ⟨sb, o, none⟩ = w.cell? ⟨sb, o, none⟩ := fun o => World.cell?_of_block (hW.block sb hsb (by simp))
  exact ⟨⟨by rw [e]; exact h0, by rw [e]; exact h1, by rw [e]; exact h2, by rw [e]; exact h3, by rw [e]; exact h4⟩, _, S, rfl, h5'.grown hW, h6, h7, by rw [← strL_len, h7]; omega⟩
/-- The elements of a row that All made. -/
theorem FrE.elems {w w1 : World} {v : Value} {ps : List (Nat × List Nat)} (h : FrE w w1 v ps) : ∃ a g c, v = .slice a ps.length c ∧ ps.length ≤ c ∧ ∀ W, w1.grownBy W none → ∀ j, j < ps.length → a = some ⟨g, 0, none⟩ ∧ ∃ ya yc, W.cell? ⟨g, j * 2, none⟩ = some (.int .i64 ((ps.getD j (0, [])).1 : Nat)) ∧ W.cell? ⟨g, j * 2 + 1, none⟩ = some (.slice ya (ps.getD j (0, [])).2.length yc) ∧
    Bytes W (.slice ya (ps.getD j (0, [])).2.length yc) (ps.getD j (0, [])).2 ∧ Whole0 (.slice ya (ps.getD j (0, [])).2.length yc) := by
  obtain ⟨xs, h1, h2⟩ := h.rows
  obtain ⟨a, g, c, rfl, hc, _, _, _, hop⟩ := own_formN h1
  refine ⟨a, g, c, rfl, hc, fun W hW j hj => ?_⟩
  obtain ⟨rfl, hg, hcell, _⟩ := hop (by omega)
  obtain ⟨y, k1, k2, k3, k4⟩ := h2 j hj
  obtain ⟨ya, _, yc, rfl, _⟩ := own_formN k3
  refine ⟨rfl, ya, yc, ?_, ?_, (Bytes.own k3 k4).grown hW, Whole0.own k3⟩
  · rw [World.cell?_of_block (hW.block g hg (by simp)), Nat.mul_comm]; exact hcell _ _ k1
  · rw [World.cell?_of_block (hW.block g hg (by simp)), Nat.mul_comm]; exact hcell _ _ k2
set_option maxRecDepth 100000 in
set_option maxHeartbeats 4000000 in
theorem derWrites_any (A : Nat → Addr) (a : Option Addr) (sb so n c : Nat) (xs : List De.Val) (w : World) (hn : xs.length = n) (ha : 0 < n → a = some ⟨sb, so, none⟩ ∧ sb < w.heap.size) (hV : ValsAt w sb so xs) (hc : n ≤ 9223372036854775807) (hcc : n ≤ c) (hA : BodiesOf A w) :
    Calls Tryz.prog 3 #[.slice a n c] w fun e w' => e = .returned (.bool true) ∧ w.grownBy w' none := by
  have HAl := Lib.hid (alive8_any A w hA)
  have HLo : Hid (∀ W, w.grownBy W none → Calls Tryz.prog 7 #[.slice a n c] W fun e w' => LongPost W w' n xs e) := Lib.hid (fun W hW => long_any a sb so n c xs W hn (fun h => ⟨(ha h).1, Nat.lt_of_lt_of_le (ha h).2 hW.size⟩) (hV.grown hW (fun h => (ha (by omega)).2)) hc hcc)
  have HV := Lib.hid hV
  have HA := Lib.hid hA
  have HAd := Lib.hid ha
  have HN := Lib.hid hn
  have HNc := Lib.hid hcc
  clear hA hV ha hn hcc
  go_enter Tryz.func3, Tryz.ntmps3
  go_wp2_with (first
    | (go_at_call 6; refine HAl.out.mono ?_; rintro e w1 ⟨rfl, hg1⟩; have HG1 := Lib.hid hg1; clear hg1)
    | (go_at_call 7; refine (HLo.out _ HG1.out).mono ?_; rintro e w2 ⟨q, rfl, hg2, hq⟩; have HG2 := Lib.hid (grown_trans HG1.out hg2); have HQ := Lib.hid hq; clear hg2 hq))
  · go_ret
    exact ⟨rfl, HG2.out⟩
  · obtain rfl : q = false := by cases q <;> simp_all
    have hq := HQ.out rfl
    have HW2 := Lib.hid (TwoW.new (A := A) (w := w2))
    have HA2 := Lib.hid (HA.out.grown HG2.out)
    obtain ⟨W2, hW2⟩ : ∃ W2, W2 = (w2.alloc (.cells #[.slice none 0 0, .slice none 0 0, .nilIface] 31)).alloc (.cells #[.slice none 0 0, .slice none 0 0, .int .i64 0] 36) := ⟨_, rfl⟩
    rw [← hW2] at HW2 ⊢
    have H300 : Hid (∀ j, j < n → (xs.getD j De.none0).b.length ≤ 300 ∧ (xs.getD j De.none0).t.length ≤ 300) := Lib.hid hq.2
    have h60 : n ≤ 60 := hq.1
    clear hq HQ HLo HAl hW2
    go_loopw [28] (fun i wr => ∃ (j : Nat) (s : De.St), j ≤ n ∧ i = .int .i64 j ∧ TwoW A w2 w2.heap.size (w2.heap.size + 1) (fun _ => False) s s wr ∧ Lim j s ∧ De.Good s ∧ s.e ≤ 28) (fun i _ => n - (intOf i).toNat)
    case atStart => exact ⟨0, De.St.zero, Nat.zero_le _, rfl, HW2.out, Lim.zero, De.good_zero, by decide⟩
    case round =>
      obtain ⟨j, s, hj, rfl, hT, hl, hgd, hse⟩ := hrel
      have HT := Lib.hid hT
      have HL := Lib.hid hl
      have HGd := Lib.hid hgd
      have HSe := Lib.hid hse
      have HGr : Hid (w.grownBy wr none) := Lib.hid (grown_trans HG2.out hT.base)
      by_cases hjn : j < n
      · have had := HAd.out (by omega)
        obtain ⟨rfl, hsbl⟩ := had
        obtain ⟨va, bl, vc, S, hov, hi64, hbyt⟩ := oneV (j := j) HV.out (by rw [HN.out]; exact hjn) (H300.out j hjn).2 hsbl
        have h300 := (H300.out j hjn).1
        obtain ⟨x, hx⟩ : ∃ x, x = xs.getD j De.none0 := ⟨_, rfl⟩
        rw [← hx] at hov hi64 hbyt h300
        have hov1 := (hov wr HGr.out).1
        obtain ⟨c0, c1, c2, c3, c4⟩ := hov1
        have hsw : sb < wr.heap.size := Nat.lt_of_lt_of_le hsbl HGr.out.size
        have HS' : Hid (Lim (j + 1) (De.step s x) ∧ De.Good (De.step s x) ∧ (De.step s x).e ≤ 28) := Lib.hid ⟨hl.step, De.good_step hgd hbyt, De.step_e hse⟩
        have HVv : Hid (∀ W, w.grownBy W none → ValV W (.agg #[.int .i64 x.kind, .int .i64 x.n, .bool x.is, .slice va bl vc, .string S]) x) := Lib.hid (fun W hW => (hov W hW).2)
        have HPut : Hid (∀ W, W = wr.alloc (.cells #[.int .i64 x.kind, .int .i64 x.n, .bool x.is, .slice va bl vc, .string S] 38) → Calls Tryz.prog 8 #[.pointer (some ⟨w2.heap.size, 0, none⟩), .agg #[.int .i64 x.kind, .int .i64 x.n, .bool x.is, .slice va bl vc, .string S]] W fun e w' => e = .returned (.tuple #[]) ∧ TwoW A w2 w2.heap.size (w2.heap.size + 1) (fun k => wr.heap.size ≤ k ∧ k < W.heap.size) (De.step s x) s w' ∧ w'.heap[wr.heap.size]? = some (.cells #[.int .i64 x.kind, .int .i64 x.n, .bool x.is, .slice va bl vc, .string S] 38 (0, 0))) := Lib.hid (fun W hW => by
          have hga : wr.grownBy W none := by rw [hW]; exact World.grownBy_alloc _ _ _
          refine ((hT.keep hga).first (fun F hF => lput_any hF HA2.out (hl.mono (by omega)) (fun p hp => (hgd.op p hp).1) _ x hi64 (HVv.out W (grown_trans HGr.out hga)) (by omega))).mono (fun e w' hp => ?_)
          obtain ⟨q1, q2, q3⟩ := hp
          refine ⟨q1, q2, ?_⟩
          rw [q3 wr.heap.size ⟨Nat.le_refl _, by rw [hW, alloc_size]; omega⟩, hW]
          exact alloc_at _ _)
        have HDo : Hid (∀ B W, TwoW A w2 w2.heap.size (w2.heap.size + 1) B (De.step s x) s W → Calls Tryz.prog 9 #[.pointer (some ⟨w2.heap.size + 1, 0, none⟩), .agg #[.int .i64 x.kind, .int .i64 x.n, .bool x.is, .slice va bl vc, .string S]] W fun e w' => e = .returned (.tuple #[]) ∧ TwoW A w2 w2.heap.size (w2.heap.size + 1) (fun _ => False) (De.step s x) (De.step s x) w') := Lib.hid (fun B W hW => by
          refine (hW.second (fun F hF => refDo_any hF hl (by omega) _ x (HVv.out W (grown_trans HG2.out hW.base)) (by omega))).mono (fun e w' hp => ⟨hp.1, hp.2.1.less (fun k hk => hk.elim)⟩))
        obtain ⟨S', hS'⟩ : ∃ S', S' = De.step s x := ⟨_, rfl⟩
        rw [← hS'] at HS' HPut HDo
        have HD1 : Hid (∀ W, TwoW A w2 w2.heap.size (w2.heap.size + 1) (fun _ => False) S' S' W → Calls Tryz.prog 10 #[.pointer (some ⟨w2.heap.size, 0, none⟩)] W fun e w' => PDnPost A W w' (De.done S') e) := Lib.hid (fun W ⟨F1, F2, h1, _⟩ => prDone_any h1 HA2.out.errs (HS'.out.1.mono (by omega)))
        have HD2 : Hid (∀ W, TwoW A w2 w2.heap.size (w2.heap.size + 1) (fun _ => False) S' S' W → Calls Tryz.prog 11 #[.pointer (some ⟨w2.heap.size + 1, 0, none⟩)] W fun e w' => DnPost W w' (De.done S') e) := Lib.hid (fun W ⟨F1, F2, _, h2, _⟩ => refDone_any h2 HS'.out.1 (by omega))
        clear hT hl hgd hse hov hi64 hbyt h300 hx hS'
        cases hd : De.done S' with
        | error k =>
          rw [hd] at HD1 HD2
          have hk28 := De.done_e HS'.out.2.2 hd
          have HNu := Lib.hid (fun W (hW : w2.grownBy W none) => num_of A k hk28.2 W (HA2.out.errs.grown hW))
          unfold errOf at HNu
          rw [if_neg (by omega)] at HNu
          clear hd hk28
          go_wp2_with (first
            | (go_at_call 8; refine (HPut.out _ rfl).mono ?_; rintro e w3 ⟨rfl, hT3, hb3⟩; have T3 := Lib.hid hT3; have d0 := cell_blk hb3 0 rfl; have d1 := cell_blk hb3 1 rfl; have d2 := cell_blk hb3 2 rfl; have d3 := cell_blk hb3 3 rfl; have d4 := cell_blk hb3 4 rfl; clear hT3 hb3)
            | (go_at_call 9; refine (HDo.out _ _ T3.out).mono ?_; rintro e w4 ⟨rfl, hT4⟩; have T4 := Lib.hid hT4; clear hT4)
            | (go_at_call 10; refine (HD1.out _ T4.out).mono ?_; rintro e w5 ⟨hg5, rfl⟩; have T5 := Lib.hid (T4.out.still hg5); clear hg5)
            | (go_at_call 11; refine (HD2.out _ T5.out).mono ?_; rintro e w6 ⟨hg6, rfl⟩; have T6 := Lib.hid (T5.out.still hg6); clear hg6)
            | (go_at_call 12; refine (HNu.out _ T6.out.base).mono ?_; rintro e w7 ⟨rfl, hg7⟩; have T7 := Lib.hid (T6.out.still hg7); have cv := conv_bytes (P := Tryz.prog) (bytes_nil0 w7) 27 5 9 Tryz.underlying27 Tryz.underlying5 Tryz.underlying9; clear hg7))
          go_roundw
          case rel => exact ⟨j + 1, S', by omega, by go_num, T7.out, HS'.out⟩
          case measure => simp [intOf]; omega
        | ok l =>
          rw [hd] at HD1 HD2
          have HNu := Lib.hid (fun W (hW : w2.grownBy W none) => num_of A 0 (by decide) W (HA2.out.errs.grown hW))
          unfold errOf at HNu
          rw [if_pos rfl] at HNu
          have hbq : ((strOf l).toList == (strOf l).toList) = true := beq_self_eq_true _
          clear hd
          go_wp2_with (first
            | (go_at_call 8; refine (HPut.out _ rfl).mono ?_; rintro e w3 ⟨rfl, hT3, hb3⟩; have T3 := Lib.hid hT3; have d0 := cell_blk hb3 0 rfl; have d1 := cell_blk hb3 1 rfl; have d2 := cell_blk hb3 2 rfl; have d3 := cell_blk hb3 3 rfl; have d4 := cell_blk hb3 4 rfl; clear hT3 hb3)
            | (go_at_call 9; refine (HDo.out _ _ T3.out).mono ?_; rintro e w4 ⟨rfl, hT4⟩; have T4 := Lib.hid hT4; clear hT4)
            | (go_at_call 10; refine (HD1.out _ T4.out).mono ?_; rintro e w5 ⟨hg5, a5, c5, rfl, hB5, _⟩; have T5 := Lib.hid (T4.out.still hg5); have B5 := Lib.hid hB5; clear hg5 hB5)
            | (go_at_call 11; refine (HD2.out _ T5.out).mono ?_; rintro e w6 ⟨hg6, u6, rfl, hf6⟩; have T6 := Lib.hid (T5.out.still hg6); have B6 := Lib.hid (B5.out.grown hg6); have F6 := Lib.hid (Bytes.own hf6.own B5.out.lt); clear hg6 hf6)
            | (go_at_call 12; refine (HNu.out _ T6.out.base).mono ?_; rintro e w7 ⟨rfl, hg7⟩; have T7 := Lib.hid (T6.out.still hg7); have cv := conv_bytes (P := Tryz.prog) (B6.out.grown hg7) 27 5 9 Tryz.underlying27 Tryz.underlying5 Tryz.underlying9; have cv2 := conv_bytes (P := Tryz.prog) (F6.out.grown hg7) 27 5 9 Tryz.underlying27 Tryz.underlying5 Tryz.underlying9; clear hg7))
          go_roundw
          case rel => exact ⟨j + 1, S', by omega, by go_num, T7.out, HS'.out⟩
          case measure => simp [intOf]; omega
      · obtain rfl : j = n := by omega
        have HD1 : Hid (Calls Tryz.prog 10 #[.pointer (some ⟨w2.heap.size, 0, none⟩)] wr fun e w' => PDnPost A wr w' (De.done s) e) := Lib.hid (by
          obtain ⟨F1, F2, h1, _⟩ := hT
          exact prDone_any h1 HA2.out.errs (hl.mono (by omega)))
        have HEr := Lib.hid (fun W (hW : wr.grownBy W none) => HA2.out.errs.grown (grown_trans HT.out.base hW))
        clear hT hl hgd hse
        cases hd : De.done s with
        | error k =>
          rw [hd] at HD1
          clear hd
          go_wp2_with (go_at_call 10; refine HD1.out.mono ?_; rintro e w5 ⟨hg5, rfl⟩; have G5 := Lib.hid (grown_trans HGr.out hg5); clear hg5)
          go_ret
          exact ⟨rfl, G5.out⟩
        | ok l =>
          rw [hd] at HD1
          have hl0 := done_ok hd
          obtain ⟨ps, hps, hmap, hall⟩ := De.all_ok s.dn l.length HGd.out.dn (by rw [hl0]; exact Nat.le_refl _)
          rw [← hl0] at hps
          have hK60 : ps.length ≤ 60 := by
            have h1 : ps.length = s.dn.length := by rw [← hmap, List.length_map]
            have h2 := HL.out.len 0
            rw [show levOf s 0 = s.dn from rfl] at h2
            omega
          have hl65 : l.length ≤ 65536 := by
            unfold De.done at hd
            split at hd
            · cases hd
            · split at hd
              · cases hd
              · split at hd
                · cases hd
                · rename_i h; rw [← Except.ok.inj hd]; omega
          have HAll : Hid (∀ W a c, wr.grownBy W none → Bytes W (.slice a l.length c) l → Whole0 (.slice a l.length c) → Calls Tryz.prog 13 #[.slice a l.length c] W fun e w' => ∃ v, e = .returned (.tuple #[v, .nilIface]) ∧ FrE W w' v ps) := Lib.hid (fun W a c hW hb h0 => (all_any A _ l W hb h0 (by omega) (HEr.out W hW)).mono (fun e w' hp => by
            rw [hps] at hp
            exact hp))
          have HOne : Hid (∀ j, j < ps.length → Tl.known (((ps.getD j (0, [])).1 : Nat) : Int) = true ∧ (ps.getD j (0, [])).2.length ≤ 65530 ∧ De.Deep (Tl.levels (Tl.elem (ps.getD j (0, [])).1 (ps.getD j (0, [])).2))) := Lib.hid (fun j hj => by
            have hmem : ps.getD j (0, []) ∈ ps := by
              rw [List.getD_eq_getElem?_getD, List.getElem?_eq_getElem hj]
              exact List.getElem_mem hj
            obtain ⟨h1, h2, h3⟩ := hall _ hmem
            refine ⟨h1, h2, ?_⟩
            obtain ⟨t', b', k1, k2, k3, _, k5⟩ := h3
            rw [k3, De.levels_elem k1 k2]
            exact k5)
          obtain ⟨K, hK⟩ : ∃ K, K = ps.length := ⟨_, rfl⟩
          obtain ⟨N, hN⟩ : ∃ N, N = l.length := ⟨_, rfl⟩
          rw [← hK] at HOne hK60
          clear hd hl0 hps hall hl65 hmap
          go_wp2_with (first
            | (go_at_call 10; refine HD1.out.mono ?_; rintro e w5 ⟨hg5, a5, c5, rfl, hB5, hW5⟩; have G5 := Lib.hid hg5; have B5 := Lib.hid hB5; have W5 := Lib.hid hW5; clear hg5 hB5 hW5)
            | (go_at_call 13; refine (HAll.out _ _ _ G5.out B5.out W5.out).mono ?_; rintro e w6 ⟨v6, rfl, hf6⟩; have G6 := Lib.hid (grown_trans G5.out hf6.grown); obtain ⟨a6, g6, c6, rfl, hc6, hel6⟩ := hf6.elems; rw [← hK] at hc6 hel6; have E6 := Lib.hid hel6; clear hf6 hel6))
          rw [← hK]
          clear hK hN
          obtain ⟨wo, rfl⟩ : ∃ wo : World, wo = wr := ⟨_, rfl⟩
          go_loopw [76] (fun i wq => ∃ m : Nat, m ≤ K ∧ i = .int .i64 m ∧ w6.grownBy wq none) (fun i _ => K - (intOf i).toNat)
          case atStart => exact ⟨0, Nat.zero_le _, rfl, grown_refl _ _⟩
          case round =>
            obtain ⟨m, hm, rfl, hgq⟩ := hrel
            obtain ⟨wq, rfl⟩ : ∃ wq : World, wq = wr := ⟨_, rfl⟩
            have HQg := Lib.hid hgq
            have HGw : Hid (w.grownBy wq none) := Lib.hid (grown_trans HGr.out (grown_trans G6.out hgq))
            by_cases hmk : m < K
            · obtain ⟨rfl, ya, yc, e0, e1, hyb, hy0⟩ := E6.out wq hgq m hmk
              obtain ⟨hkn, hle, hdp⟩ := HOne.out m hmk
              have HMk := Lib.hid hmk
              generalize (ps.getD m (0, [])).1 = t at *
              generalize (ps.getD m (0, [])).2 = y at *
              have hg6 : g6 < wq.heap.size := World.block_lt_of_cell? wq _ e0
              have HPt : Hid (∀ W, wq.grownBy W none → Calls Tryz.prog 14 #[.agg #[.int .i64 (t : Int), .slice ya y.length yc]] W fun e w' => ∃ u, e = .returned (.tuple #[u, .nilIface]) ∧ FrW W w' u (Tl.elem t y)) := Lib.hid (fun W hW => (tput_any A t _ y W (hyb.grown hW) hy0 (by omega) (HEr.out W (grown_trans G6.out (grown_trans hgq hW)))).mono (fun e w' hp => by
                obtain ⟨hp, hg⟩ := hp
                unfold PutPost at hp
                rw [if_neg (by rw [hkn]; simp), if_neg (by omega)] at hp
                exact hp))
              have htn := Tl.known_nat (t : Int) hkn
              have hel8 := elem_lt256 (t := t) (by omega) hyb.lt
              have hel7 : (Tl.elem t y).length ≤ 70000 := elem_len70 (by omega)
              have HCk : Hid (∀ W u, wq.grownBy W none → Bytes W u (Tl.elem t y) → Whole0 u → Calls Tryz.prog 15 #[u] W fun e w' => e = .returned (chkV A (Tl.levels (Tl.elem t y))) ∧ W.grownBy w' none) := Lib.hid (fun W u hW hb h0 => check_any A u _ W hb h0 (by omega) (HEr.out W (grown_trans G6.out (grown_trans hgq hW))))
              have HEl := Lib.hid hel8
              have HN6 : Hid (∀ W, wq.grownBy W none → Calls Tryz.prog 12 #[errV A 6] W fun e w' => e = .returned (.int .i64 6) ∧ W.grownBy w' none) := Lib.hid (fun W hW => by
                have := num_of A 6 (by decide) W (HEr.out W (grown_trans G6.out (grown_trans hgq hW)))
                unfold errOf at this
                rw [if_neg (by decide)] at this
                exact this)
              have HW0' : Hid (∀ W W' u, FrW W W' u (Tl.elem t y) → Bytes W' u (Tl.elem t y) ∧ Whole0 u) := Lib.hid (fun W W' u hf => ⟨Bytes.own hf.own hel8, Whole0.own hf.own⟩)
              rcases hdp with ⟨d, hdp⟩ | hdp
              · rw [hdp] at HCk
                unfold chkV at HCk
                clear hgq hyb hy0 hkn hle hdp htn hel8 hel7
                go_wp2_with (first
                  | (go_at_call 14; refine (HPt.out _ (World.grownBy_alloc _ _ _)).mono ?_; rintro e w8 ⟨u8, rfl, hf8⟩; have G8 := Lib.hid (grown_trans (World.grownBy_alloc wq _ none) hf8.grown); have P8 := Lib.hid (HW0'.out _ _ _ hf8); clear hf8)
                  | (go_at_call 15; refine (HCk.out _ _ G8.out P8.out.1 P8.out.2).mono ?_; rintro e w9 ⟨rfl, hg9⟩; have G9 := Lib.hid (grown_trans G8.out hg9); clear hg9))
                go_roundw
                case rel => exact ⟨m + 1, by have := HMk.out; omega, by go_num, grown_trans HQg.out G9.out⟩
                case measure =>
                  have := HMk.out
                  simp [intOf]; omega
              · rw [hdp] at HCk
                unfold chkV at HCk
                clear hgq hyb hy0 hkn hle hdp htn hel8 hel7
                go_wp2_with (first
                  | (go_at_call 14; refine (HPt.out _ (World.grownBy_alloc _ _ _)).mono ?_; rintro e w8 ⟨u8, rfl, hf8⟩; have G8 := Lib.hid (grown_trans (World.grownBy_alloc wq _ none) hf8.grown); have P8 := Lib.hid (HW0'.out _ _ _ hf8); have G9 := Lib.hid G8.out; have P9 := Lib.hid P8.out; clear hf8)
                  | (go_at_call 15; refine (HCk.out _ _ G9.out P9.out.1 P9.out.2).mono ?_; rintro e w9 ⟨rfl, hg9⟩; replace P9 := Lib.hid (And.intro (P9.out.1.grown hg9) P9.out.2); replace G9 := Lib.hid (grown_trans G9.out hg9); clear hg9)
                  | (go_at_call 12; refine (HN6.out _ G9.out).mono ?_; rintro e w10 ⟨rfl, hg10⟩; have G10 := Lib.hid (grown_trans G9.out hg10); clear hg10))
                go_roundw
                case rel => exact ⟨m + 1, by have := HMk.out; omega, by go_num, grown_trans HQg.out G10.out⟩
                case measure =>
                  have := HMk.out
                  simp [intOf]; omega
            · obtain rfl : m = K := by omega
              clear hgq
              go_wp2
              go_ret
              exact ⟨rfl, HGw.out⟩
end Go.Proofs.YtpjhkmdlegjdaaaGreatDoor
