import Derived.Test.YtagdcjpjbjboeaaGreatDoorZb27
import Derived.Test.YtagdcjpjbjboeaaGreatDoorZb29
import Derived.Test.YtagdcjpjbjboeaaGreatDoorZb35
import Derived.Test.YtagdcjpjbjboeaaGreatDoorZb41
import Derived.BigQuiet
namespace Go.Proofs.YtagdcjpjbjboeaaGreatDoor
open Go.RowKit
set_option linter.unusedVariables false
theorem PrW.new {A : Nat → Addr} {W0 w : World} (hb : W0.grownBy w none) :
    PrW A W0 (fun k => k = w.heap.size) w.heap.size De.St.zero (w.alloc (.cells #[.slice none 0 0, .slice none 0 0, .nilIface] 51)) := by
  have hs : (w.alloc (.cells #[.slice none 0 0, .slice none 0 0, .nilIface] 51)).heap.size = w.heap.size + 1 := alloc_size _ _
  have h0 := hb.size
  refine ⟨grown_alloc hb _, fun k hk => ⟨by rw [hk]; exact h0, by rw [hs, hk]; omega⟩, rfl, .slice none 0 0, .slice none 0 0, alloc_at w _, fun _ => ⟨0, fun _ => .slice none 0 0, rfl, by omega, fun k hk => ?_, by simp [Value.ownBlock], by simp [Value.ownBlock], fun j hj => absurd hj (by omega), fun i j hi => absurd hi (by omega), ⟨[], ⟨rfl, .inl ⟨rfl, rfl⟩⟩, fun j hj => absurd hj (by omega)⟩, ⟨rfl, .inl ⟨rfl, rfl⟩⟩, by simp [De.St.zero], fun j hj => absurd hj (by omega)⟩⟩
  rcases hk with hk | hk | hk | ⟨j, hj, hk⟩
  · exact hk
  · exact absurd hk (by simp [Value.ownBlock])
  · exact absurd hk (by simp [Value.ownBlock])
  · omega
theorem prOpen_step {A : Nat → Addr} {W0 w : World} {F : Nat → Prop} {b : Nat} {s : De.St} (h : PrW A W0 F b s w) (hA : BodiesOf A W0) (v : De.Val) (hk : v.kind = 1) :
    Calls Tryz.prog 25 #[.pointer (some ⟨b, 0, none⟩), .int .i64 v.n] w fun e w' => PrPost A W0 F b w w' (De.step s v) e := by
  have hst : De.step s v = if s.e = 0 then De.opn s v.n else s := by
    unfold De.step
    by_cases he : s.e = 0
    · rw [if_pos he, if_neg (fun h => h he), if_pos hk]
    · rw [if_neg he, if_pos he]
  rw [hst]
  exact prOpen_any h hA.errs v.n
set_option maxRecDepth 100000 in
set_option maxHeartbeats 1000000 in
theorem lput_Open {A : Nat → Addr} {W0 w : World} {F : Nat → Prop} {b : Nat} {s : De.St} (h : PrW A W0 F b s w) (hA : BodiesOf A W0) (hl : Lim 1000 s) (hm : ∀ p ∈ s.op, Tl.made (p.1 : Nat) = true) (x : De.Val) (hn : De.I64 x.n) (xa : Option Addr) (xn xc : Nat) (S : ByteArray) (hb : Bytes w (.slice xa xn xc) x.b) (h0 : Whole0 (.slice xa xn xc)) (hlen : x.b.length ≤ 1000000) (hS : strL S = x.t) (hz : S.size ≤ 1000) (hk : x.kind = 1) :
    Calls Tryz.prog 26 #[.pointer (some ⟨b, 0, none⟩), .agg #[.int .i64 1, .int .i64 x.n, .bool x.is, .slice xa xn xc, .string S]] w fun e w' => PrPost A W0 F b w w' (De.step s x) e := by
  have HX := Lib.hid h
  have HC : Hid (∀ W, W = w.alloc (.cells #[.int .i64 1, .int .i64 x.n, .bool x.is, .slice xa xn xc, .string S] 41) → Calls Tryz.prog 25 #[.pointer (some ⟨b, 0, none⟩), .int .i64 x.n] W fun e w' => PrPost A W0 F b w w' (De.step s x) e) := Lib.hid (fun W hW => by
    subst hW
    have hga := World.grownBy_alloc w (.cells #[.int .i64 1, .int .i64 x.n, .bool x.is, .slice xa xn xc, .string S] 41) none
    have HY := Lib.hid (HX.out.grow hga)
    exact (prOpen_step HY.out hA x hk).mono (fun e w' hp => HX.out.after hga hp))
  obtain ⟨T, hT⟩ : ∃ T, T = De.step s x := ⟨_, rfl⟩
  rw [← hT] at HC ⊢
  clear h hA hl hm hb hS hlen hT
  go_enter Tryz.func26, Tryz.ntmps26
  go_wp2_with (go_at_call 25; refine (HC.out _ rfl).mono ?_; rintro e w3 ⟨rfl, k1, k2⟩; have K1 := Lib.hid k1; have K2 := Lib.hid k2; clear k1 k2)
  go_returns
  exact ⟨rfl, K1.out, K2.out⟩
set_option maxRecDepth 100000 in
set_option maxHeartbeats 1000000 in
theorem lput_Close {A : Nat → Addr} {W0 w : World} {F : Nat → Prop} {b : Nat} {s : De.St} (h : PrW A W0 F b s w) (hA : BodiesOf A W0) (hl : Lim 1000 s) (hm : ∀ p ∈ s.op, Tl.made (p.1 : Nat) = true) (x : De.Val) (hn : De.I64 x.n) (xa : Option Addr) (xn xc : Nat) (S : ByteArray) (hb : Bytes w (.slice xa xn xc) x.b) (h0 : Whole0 (.slice xa xn xc)) (hlen : x.b.length ≤ 1000000) (hS : strL S = x.t) (hz : S.size ≤ 1000) (hk : x.kind = 2) :
    Calls Tryz.prog 26 #[.pointer (some ⟨b, 0, none⟩), .agg #[.int .i64 2, .int .i64 x.n, .bool x.is, .slice xa xn xc, .string S]] w fun e w' => PrPost A W0 F b w w' (De.step s x) e := by
  have HX := Lib.hid h
  have HC : Hid (∀ W, W = w.alloc (.cells #[.int .i64 2, .int .i64 x.n, .bool x.is, .slice xa xn xc, .string S] 41) → Calls Tryz.prog 28 #[.pointer (some ⟨b, 0, none⟩)] W fun e w' => PrPost A W0 F b w w' (De.step s x) e) := Lib.hid (fun W hW => by
    subst hW
    have hga := World.grownBy_alloc w (.cells #[.int .i64 2, .int .i64 x.n, .bool x.is, .slice xa xn xc, .string S] 41) none
    have HY := Lib.hid (HX.out.grow hga)
    exact (prClose_any HY.out hA.errs hl hm x hk).mono (fun e w' hp => HX.out.after hga hp))
  obtain ⟨T, hT⟩ : ∃ T, T = De.step s x := ⟨_, rfl⟩
  rw [← hT] at HC ⊢
  clear h hA hl hm hb hS hlen hT
  go_enter Tryz.func26, Tryz.ntmps26
  go_wp2_with (go_at_call 28; refine (HC.out _ rfl).mono ?_; rintro e w3 ⟨rfl, k1, k2⟩; have K1 := Lib.hid k1; have K2 := Lib.hid k2; clear k1 k2)
  go_returns
  exact ⟨rfl, K1.out, K2.out⟩
set_option maxRecDepth 100000 in
set_option maxHeartbeats 1000000 in
theorem lput_Int {A : Nat → Addr} {W0 w : World} {F : Nat → Prop} {b : Nat} {s : De.St} (h : PrW A W0 F b s w) (hA : BodiesOf A W0) (hl : Lim 1000 s) (hm : ∀ p ∈ s.op, Tl.made (p.1 : Nat) = true) (x : De.Val) (hn : De.I64 x.n) (xa : Option Addr) (xn xc : Nat) (S : ByteArray) (hb : Bytes w (.slice xa xn xc) x.b) (h0 : Whole0 (.slice xa xn xc)) (hlen : x.b.length ≤ 1000000) (hS : strL S = x.t) (hz : S.size ≤ 1000) (hk : x.kind = 3) :
    Calls Tryz.prog 26 #[.pointer (some ⟨b, 0, none⟩), .agg #[.int .i64 3, .int .i64 x.n, .bool x.is, .slice xa xn xc, .string S]] w fun e w' => PrPost A W0 F b w w' (De.step s x) e := by
  have HX := Lib.hid h
  have HC : Hid (∀ W, W = w.alloc (.cells #[.int .i64 3, .int .i64 x.n, .bool x.is, .slice xa xn xc, .string S] 41) → Calls Tryz.prog 55 #[.pointer (some ⟨b, 0, none⟩), .int .i64 x.n] W fun e w' => PrPost A W0 F b w w' (De.step s x) e) := Lib.hid (fun W hW => by
    subst hW
    have hga := World.grownBy_alloc w (.cells #[.int .i64 3, .int .i64 x.n, .bool x.is, .slice xa xn xc, .string S] 41) none
    have HY := Lib.hid (HX.out.grow hga)
    exact (prInt_any HY.out hA hl x hk hn).mono (fun e w' hp => HX.out.after hga hp))
  obtain ⟨T, hT⟩ : ∃ T, T = De.step s x := ⟨_, rfl⟩
  rw [← hT] at HC ⊢
  clear h hA hl hm hb hS hlen hT
  go_enter Tryz.func26, Tryz.ntmps26
  go_wp2_with (go_at_call 55; refine (HC.out _ rfl).mono ?_; rintro e w3 ⟨rfl, k1, k2⟩; have K1 := Lib.hid k1; have K2 := Lib.hid k2; clear k1 k2)
  go_returns
  exact ⟨rfl, K1.out, K2.out⟩
set_option maxRecDepth 100000 in
set_option maxHeartbeats 1000000 in
theorem lput_Enum {A : Nat → Addr} {W0 w : World} {F : Nat → Prop} {b : Nat} {s : De.St} (h : PrW A W0 F b s w) (hA : BodiesOf A W0) (hl : Lim 1000 s) (hm : ∀ p ∈ s.op, Tl.made (p.1 : Nat) = true) (x : De.Val) (hn : De.I64 x.n) (xa : Option Addr) (xn xc : Nat) (S : ByteArray) (hb : Bytes w (.slice xa xn xc) x.b) (h0 : Whole0 (.slice xa xn xc)) (hlen : x.b.length ≤ 1000000) (hS : strL S = x.t) (hz : S.size ≤ 1000) (hk : x.kind = 4) :
    Calls Tryz.prog 26 #[.pointer (some ⟨b, 0, none⟩), .agg #[.int .i64 4, .int .i64 x.n, .bool x.is, .slice xa xn xc, .string S]] w fun e w' => PrPost A W0 F b w w' (De.step s x) e := by
  have HX := Lib.hid h
  have HC : Hid (∀ W, W = w.alloc (.cells #[.int .i64 4, .int .i64 x.n, .bool x.is, .slice xa xn xc, .string S] 41) → Calls Tryz.prog 76 #[.pointer (some ⟨b, 0, none⟩), .int .i64 x.n] W fun e w' => PrPost A W0 F b w w' (De.step s x) e) := Lib.hid (fun W hW => by
    subst hW
    have hga := World.grownBy_alloc w (.cells #[.int .i64 4, .int .i64 x.n, .bool x.is, .slice xa xn xc, .string S] 41) none
    have HY := Lib.hid (HX.out.grow hga)
    exact (prEnum_any HY.out hA hl x hk hn).mono (fun e w' hp => HX.out.after hga hp))
  obtain ⟨T, hT⟩ : ∃ T, T = De.step s x := ⟨_, rfl⟩
  rw [← hT] at HC ⊢
  clear h hA hl hm hb hS hlen hT
  go_enter Tryz.func26, Tryz.ntmps26
  go_wp2_with (go_at_call 76; refine (HC.out _ rfl).mono ?_; rintro e w3 ⟨rfl, k1, k2⟩; have K1 := Lib.hid k1; have K2 := Lib.hid k2; clear k1 k2)
  go_returns
  exact ⟨rfl, K1.out, K2.out⟩
set_option maxRecDepth 100000 in
set_option maxHeartbeats 1000000 in
theorem lput_Bool {A : Nat → Addr} {W0 w : World} {F : Nat → Prop} {b : Nat} {s : De.St} (h : PrW A W0 F b s w) (hA : BodiesOf A W0) (hl : Lim 1000 s) (hm : ∀ p ∈ s.op, Tl.made (p.1 : Nat) = true) (x : De.Val) (hn : De.I64 x.n) (xa : Option Addr) (xn xc : Nat) (S : ByteArray) (hb : Bytes w (.slice xa xn xc) x.b) (h0 : Whole0 (.slice xa xn xc)) (hlen : x.b.length ≤ 1000000) (hS : strL S = x.t) (hz : S.size ≤ 1000) (hk : x.kind = 5) :
    Calls Tryz.prog 26 #[.pointer (some ⟨b, 0, none⟩), .agg #[.int .i64 5, .int .i64 x.n, .bool x.is, .slice xa xn xc, .string S]] w fun e w' => PrPost A W0 F b w w' (De.step s x) e := by
  have HX := Lib.hid h
  have HC : Hid (∀ W, W = w.alloc (.cells #[.int .i64 5, .int .i64 x.n, .bool x.is, .slice xa xn xc, .string S] 41) → Calls Tryz.prog 77 #[.pointer (some ⟨b, 0, none⟩), .bool x.is] W fun e w' => PrPost A W0 F b w w' (De.step s x) e) := Lib.hid (fun W hW => by
    subst hW
    have hga := World.grownBy_alloc w (.cells #[.int .i64 5, .int .i64 x.n, .bool x.is, .slice xa xn xc, .string S] 41) none
    have HY := Lib.hid (HX.out.grow hga)
    exact (prBool_any HY.out hA hl x hk hn).mono (fun e w' hp => HX.out.after hga hp))
  obtain ⟨T, hT⟩ : ∃ T, T = De.step s x := ⟨_, rfl⟩
  rw [← hT] at HC ⊢
  clear h hA hl hm hb hS hlen hT
  go_enter Tryz.func26, Tryz.ntmps26
  go_wp2_with (go_at_call 77; refine (HC.out _ rfl).mono ?_; rintro e w3 ⟨rfl, k1, k2⟩; have K1 := Lib.hid k1; have K2 := Lib.hid k2; clear k1 k2)
  go_returns
  exact ⟨rfl, K1.out, K2.out⟩
set_option maxRecDepth 100000 in
set_option maxHeartbeats 1000000 in
theorem lput_Octets {A : Nat → Addr} {W0 w : World} {F : Nat → Prop} {b : Nat} {s : De.St} (h : PrW A W0 F b s w) (hA : BodiesOf A W0) (hl : Lim 1000 s) (hm : ∀ p ∈ s.op, Tl.made (p.1 : Nat) = true) (x : De.Val) (hn : De.I64 x.n) (xa : Option Addr) (xn xc : Nat) (S : ByteArray) (hb : Bytes w (.slice xa xn xc) x.b) (h0 : Whole0 (.slice xa xn xc)) (hlen : x.b.length ≤ 1000000) (hS : strL S = x.t) (hz : S.size ≤ 1000) (hk : x.kind = 6) :
    Calls Tryz.prog 26 #[.pointer (some ⟨b, 0, none⟩), .agg #[.int .i64 6, .int .i64 x.n, .bool x.is, .slice xa xn xc, .string S]] w fun e w' => PrPost A W0 F b w w' (De.step s x) e := by
  have HX := Lib.hid h
  have HC : Hid (∀ W, W = w.alloc (.cells #[.int .i64 6, .int .i64 x.n, .bool x.is, .slice xa xn xc, .string S] 41) → Calls Tryz.prog 78 #[.pointer (some ⟨b, 0, none⟩), .slice xa xn xc] W fun e w' => PrPost A W0 F b w w' (De.step s x) e) := Lib.hid (fun W hW => by
    subst hW
    have hga := World.grownBy_alloc w (.cells #[.int .i64 6, .int .i64 x.n, .bool x.is, .slice xa xn xc, .string S] 41) none
    have HY := Lib.hid (HX.out.grow hga)
    exact (prOctets_any HY.out hA hl x hk xa xn xc (hb.grown hga) h0 hlen).mono (fun e w' hp => HX.out.after hga hp))
  obtain ⟨T, hT⟩ : ∃ T, T = De.step s x := ⟨_, rfl⟩
  rw [← hT] at HC ⊢
  clear h hA hl hm hb hS hlen hT
  go_enter Tryz.func26, Tryz.ntmps26
  go_wp2_with (go_at_call 78; refine (HC.out _ rfl).mono ?_; rintro e w3 ⟨rfl, k1, k2⟩; have K1 := Lib.hid k1; have K2 := Lib.hid k2; clear k1 k2)
  go_returns
  exact ⟨rfl, K1.out, K2.out⟩
set_option maxRecDepth 100000 in
set_option maxHeartbeats 1000000 in
theorem lput_Text {A : Nat → Addr} {W0 w : World} {F : Nat → Prop} {b : Nat} {s : De.St} (h : PrW A W0 F b s w) (hA : BodiesOf A W0) (hl : Lim 1000 s) (hm : ∀ p ∈ s.op, Tl.made (p.1 : Nat) = true) (x : De.Val) (hn : De.I64 x.n) (xa : Option Addr) (xn xc : Nat) (S : ByteArray) (hb : Bytes w (.slice xa xn xc) x.b) (h0 : Whole0 (.slice xa xn xc)) (hlen : x.b.length ≤ 1000000) (hS : strL S = x.t) (hz : S.size ≤ 1000) (hk : x.kind = 7) :
    Calls Tryz.prog 26 #[.pointer (some ⟨b, 0, none⟩), .agg #[.int .i64 7, .int .i64 x.n, .bool x.is, .slice xa xn xc, .string S]] w fun e w' => PrPost A W0 F b w w' (De.step s x) e := by
  have HX := Lib.hid h
  have HC : Hid (∀ W, W = w.alloc (.cells #[.int .i64 7, .int .i64 x.n, .bool x.is, .slice xa xn xc, .string S] 41) → Calls Tryz.prog 79 #[.pointer (some ⟨b, 0, none⟩), .string S, .int .i64 x.n] W fun e w' => PrPost A W0 F b w w' (De.step s x) e) := Lib.hid (fun W hW => by
    subst hW
    have hga := World.grownBy_alloc w (.cells #[.int .i64 7, .int .i64 x.n, .bool x.is, .slice xa xn xc, .string S] 41) none
    have HY := Lib.hid (HX.out.grow hga)
    exact (prText_any HY.out hA hl x hk hn S hS hz).mono (fun e w' hp => HX.out.after hga hp))
  obtain ⟨T, hT⟩ : ∃ T, T = De.step s x := ⟨_, rfl⟩
  rw [← hT] at HC ⊢
  clear h hA hl hm hb hS hlen hT
  go_enter Tryz.func26, Tryz.ntmps26
  go_wp2_with (go_at_call 79; refine (HC.out _ rfl).mono ?_; rintro e w3 ⟨rfl, k1, k2⟩; have K1 := Lib.hid k1; have K2 := Lib.hid k2; clear k1 k2)
  go_returns
  exact ⟨rfl, K1.out, K2.out⟩
set_option maxRecDepth 100000 in
set_option maxHeartbeats 1000000 in
theorem lput_OID {A : Nat → Addr} {W0 w : World} {F : Nat → Prop} {b : Nat} {s : De.St} (h : PrW A W0 F b s w) (hA : BodiesOf A W0) (hl : Lim 1000 s) (hm : ∀ p ∈ s.op, Tl.made (p.1 : Nat) = true) (x : De.Val) (hn : De.I64 x.n) (xa : Option Addr) (xn xc : Nat) (S : ByteArray) (hb : Bytes w (.slice xa xn xc) x.b) (h0 : Whole0 (.slice xa xn xc)) (hlen : x.b.length ≤ 1000000) (hS : strL S = x.t) (hz : S.size ≤ 1000) (hk : x.kind = 8) :
    Calls Tryz.prog 26 #[.pointer (some ⟨b, 0, none⟩), .agg #[.int .i64 8, .int .i64 x.n, .bool x.is, .slice xa xn xc, .string S]] w fun e w' => PrPost A W0 F b w w' (De.step s x) e := by
  have HX := Lib.hid h
  have HC : Hid (∀ W, W = w.alloc (.cells #[.int .i64 8, .int .i64 x.n, .bool x.is, .slice xa xn xc, .string S] 41) → Calls Tryz.prog 80 #[.pointer (some ⟨b, 0, none⟩), .string S] W fun e w' => PrPost A W0 F b w w' (De.step s x) e) := Lib.hid (fun W hW => by
    subst hW
    have hga := World.grownBy_alloc w (.cells #[.int .i64 8, .int .i64 x.n, .bool x.is, .slice xa xn xc, .string S] 41) none
    have HY := Lib.hid (HX.out.grow hga)
    exact (prOID_any HY.out hA hl x hk S hS hz).mono (fun e w' hp => HX.out.after hga hp))
  obtain ⟨T, hT⟩ : ∃ T, T = De.step s x := ⟨_, rfl⟩
  rw [← hT] at HC ⊢
  clear h hA hl hm hb hS hlen hT
  go_enter Tryz.func26, Tryz.ntmps26
  go_wp2_with (go_at_call 80; refine (HC.out _ rfl).mono ?_; rintro e w3 ⟨rfl, k1, k2⟩; have K1 := Lib.hid k1; have K2 := Lib.hid k2; clear k1 k2)
  go_returns
  exact ⟨rfl, K1.out, K2.out⟩
set_option maxRecDepth 100000 in
set_option maxHeartbeats 1000000 in
theorem lput_Moment {A : Nat → Addr} {W0 w : World} {F : Nat → Prop} {b : Nat} {s : De.St} (h : PrW A W0 F b s w) (hA : BodiesOf A W0) (hl : Lim 1000 s) (hm : ∀ p ∈ s.op, Tl.made (p.1 : Nat) = true) (x : De.Val) (hn : De.I64 x.n) (xa : Option Addr) (xn xc : Nat) (S : ByteArray) (hb : Bytes w (.slice xa xn xc) x.b) (h0 : Whole0 (.slice xa xn xc)) (hlen : x.b.length ≤ 1000000) (hS : strL S = x.t) (hz : S.size ≤ 1000) (hk : x.kind = 9) :
    Calls Tryz.prog 26 #[.pointer (some ⟨b, 0, none⟩), .agg #[.int .i64 9, .int .i64 x.n, .bool x.is, .slice xa xn xc, .string S]] w fun e w' => PrPost A W0 F b w w' (De.step s x) e := by
  have HX := Lib.hid h
  have HC : Hid (∀ W, W = w.alloc (.cells #[.int .i64 9, .int .i64 x.n, .bool x.is, .slice xa xn xc, .string S] 41) → Calls Tryz.prog 81 #[.pointer (some ⟨b, 0, none⟩), .int .i64 x.n] W fun e w' => PrPost A W0 F b w w' (De.step s x) e) := Lib.hid (fun W hW => by
    subst hW
    have hga := World.grownBy_alloc w (.cells #[.int .i64 9, .int .i64 x.n, .bool x.is, .slice xa xn xc, .string S] 41) none
    have HY := Lib.hid (HX.out.grow hga)
    exact (prMoment_any HY.out hA hl x hk hn).mono (fun e w' hp => HX.out.after hga hp))
  obtain ⟨T, hT⟩ : ∃ T, T = De.step s x := ⟨_, rfl⟩
  rw [← hT] at HC ⊢
  clear h hA hl hm hb hS hlen hT
  go_enter Tryz.func26, Tryz.ntmps26
  go_wp2_with (go_at_call 81; refine (HC.out _ rfl).mono ?_; rintro e w3 ⟨rfl, k1, k2⟩; have K1 := Lib.hid k1; have K2 := Lib.hid k2; clear k1 k2)
  go_returns
  exact ⟨rfl, K1.out, K2.out⟩
set_option maxRecDepth 100000 in
set_option maxHeartbeats 1000000 in
theorem lput_Raw {A : Nat → Addr} {W0 w : World} {F : Nat → Prop} {b : Nat} {s : De.St} (h : PrW A W0 F b s w) (hA : BodiesOf A W0) (hl : Lim 1000 s) (hm : ∀ p ∈ s.op, Tl.made (p.1 : Nat) = true) (x : De.Val) (hn : De.I64 x.n) (xa : Option Addr) (xn xc : Nat) (S : ByteArray) (hb : Bytes w (.slice xa xn xc) x.b) (h0 : Whole0 (.slice xa xn xc)) (hlen : x.b.length ≤ 1000000) (hS : strL S = x.t) (hz : S.size ≤ 1000) (hk : x.kind = 11) :
    Calls Tryz.prog 26 #[.pointer (some ⟨b, 0, none⟩), .agg #[.int .i64 11, .int .i64 x.n, .bool x.is, .slice xa xn xc, .string S]] w fun e w' => PrPost A W0 F b w w' (De.step s x) e := by
  have HX := Lib.hid h
  have HC : Hid (∀ W, W = w.alloc (.cells #[.int .i64 11, .int .i64 x.n, .bool x.is, .slice xa xn xc, .string S] 41) → Calls Tryz.prog 82 #[.pointer (some ⟨b, 0, none⟩), .slice xa xn xc] W fun e w' => PrPost A W0 F b w w' (De.step s x) e) := Lib.hid (fun W hW => by
    subst hW
    have hga := World.grownBy_alloc w (.cells #[.int .i64 11, .int .i64 x.n, .bool x.is, .slice xa xn xc, .string S] 41) none
    have HY := Lib.hid (HX.out.grow hga)
    exact (prRaw_any HY.out hA.errs hl x hk xa xn xc (hb.grown hga) h0 hlen).mono (fun e w' hp => HX.out.after hga hp))
  obtain ⟨T, hT⟩ : ∃ T, T = De.step s x := ⟨_, rfl⟩
  rw [← hT] at HC ⊢
  clear h hA hl hm hb hS hlen hT
  go_enter Tryz.func26, Tryz.ntmps26
  go_wp2_with (go_at_call 82; refine (HC.out _ rfl).mono ?_; rintro e w3 ⟨rfl, k1, k2⟩; have K1 := Lib.hid k1; have K2 := Lib.hid k2; clear k1 k2)
  go_returns
  exact ⟨rfl, K1.out, K2.out⟩
set_option maxRecDepth 100000 in
set_option maxHeartbeats 1000000 in
theorem lput_Flags {A : Nat → Addr} {W0 w : World} {F : Nat → Prop} {b : Nat} {s : De.St} (h : PrW A W0 F b s w) (hA : BodiesOf A W0) (hl : Lim 1000 s) (hm : ∀ p ∈ s.op, Tl.made (p.1 : Nat) = true) (x : De.Val) (hn : De.I64 x.n) (xa : Option Addr) (xn xc : Nat) (S : ByteArray) (hb : Bytes w (.slice xa xn xc) x.b) (h0 : Whole0 (.slice xa xn xc)) (hlen : x.b.length ≤ 1000000) (hS : strL S = x.t) (hz : S.size ≤ 1000) (hk : ¬ ((1 ≤ x.kind ∧ x.kind ≤ 9) ∨ x.kind = 11)) :
    Calls Tryz.prog 26 #[.pointer (some ⟨b, 0, none⟩), .agg #[.int .i64 x.kind, .int .i64 x.n, .bool x.is, .slice xa xn xc, .string S]] w fun e w' => PrPost A W0 F b w w' (De.step s x) e := by
  have HX := Lib.hid h
  have z1 : (x.kind == 1) = false := beq_eq_false_iff_ne.2 (by omega)
  have z2 : (x.kind == 2) = false := beq_eq_false_iff_ne.2 (by omega)
  have z3 : (x.kind == 3) = false := beq_eq_false_iff_ne.2 (by omega)
  have z4 : (x.kind == 4) = false := beq_eq_false_iff_ne.2 (by omega)
  have z5 : (x.kind == 5) = false := beq_eq_false_iff_ne.2 (by omega)
  have z6 : (x.kind == 6) = false := beq_eq_false_iff_ne.2 (by omega)
  have z7 : (x.kind == 7) = false := beq_eq_false_iff_ne.2 (by omega)
  have z8 : (x.kind == 8) = false := beq_eq_false_iff_ne.2 (by omega)
  have z9 : (x.kind == 9) = false := beq_eq_false_iff_ne.2 (by omega)
  have z11 : (x.kind == 11) = false := beq_eq_false_iff_ne.2 (by omega)
  have HC : Hid (∀ W, W = w.alloc (.cells #[.int .i64 x.kind, .int .i64 x.n, .bool x.is, .slice xa xn xc, .string S] 41) → Calls Tryz.prog 83 #[.pointer (some ⟨b, 0, none⟩), .int .i64 x.n] W fun e w' => PrPost A W0 F b w w' (De.step s x) e) := Lib.hid (fun W hW => by
    subst hW
    have hga := World.grownBy_alloc w (.cells #[.int .i64 x.kind, .int .i64 x.n, .bool x.is, .slice xa xn xc, .string S] 41) none
    have HY := Lib.hid (HX.out.grow hga)
    exact (prFlags_any HY.out hA hl x (by omega) hn).mono (fun e w' hp => HX.out.after hga hp))
  obtain ⟨T, hT⟩ : ∃ T, T = De.step s x := ⟨_, rfl⟩
  rw [← hT] at HC ⊢
  clear h hA hl hm hb hS hlen hT
  go_enter Tryz.func26, Tryz.ntmps26
  go_wp2_with (go_at_call 83; refine (HC.out _ rfl).mono ?_; rintro e w3 ⟨rfl, k1, k2⟩; have K1 := Lib.hid k1; have K2 := Lib.hid k2; clear k1 k2)
  go_returns
  exact ⟨rfl, K1.out, K2.out⟩
/-- The law's put: a value's step. -/
theorem lput_any {A : Nat → Addr} {W0 w : World} {F : Nat → Prop} {b : Nat} {s : De.St} (h : PrW A W0 F b s w) (hA : BodiesOf A W0) (hl : Lim 1000 s) (hm : ∀ p ∈ s.op, Tl.made (p.1 : Nat) = true) (v : Value) (x : De.Val) (hn : De.I64 x.n) (hv : ValV w v x) (hlen : x.b.length ≤ 1000000) :
    Calls Tryz.prog 26 #[.pointer (some ⟨b, 0, none⟩), v] w fun e w' => PrPost A W0 F b w w' (De.step s x) e := by
  obtain ⟨bv, S, rfl, hb, h0, hS, hz⟩ := hv
  obtain ⟨xa, xn, xc, rfl⟩ : ∃ xa xn xc, bv = .slice xa xn xc := by
    obtain ⟨_, a, _, _, c, rfl, _⟩ := hb
    exact ⟨a, _, c, rfl⟩
  by_cases k1 : x.kind = 1
  · have := lput_Open h hA hl hm x hn xa xn xc S hb h0 hlen hS hz k1
    rw [k1]
    exact this
  by_cases k2 : x.kind = 2
  · have := lput_Close h hA hl hm x hn xa xn xc S hb h0 hlen hS hz k2
    rw [k2]
    exact this
  by_cases k3 : x.kind = 3
  · have := lput_Int h hA hl hm x hn xa xn xc S hb h0 hlen hS hz k3
    rw [k3]
    exact this
  by_cases k4 : x.kind = 4
  · have := lput_Enum h hA hl hm x hn xa xn xc S hb h0 hlen hS hz k4
    rw [k4]
    exact this
  by_cases k5 : x.kind = 5
  · have := lput_Bool h hA hl hm x hn xa xn xc S hb h0 hlen hS hz k5
    rw [k5]
    exact this
  by_cases k6 : x.kind = 6
  · have := lput_Octets h hA hl hm x hn xa xn xc S hb h0 hlen hS hz k6
    rw [k6]
    exact this
  by_cases k7 : x.kind = 7
  · have := lput_Text h hA hl hm x hn xa xn xc S hb h0 hlen hS hz k7
    rw [k7]
    exact this
  by_cases k8 : x.kind = 8
  · have := lput_OID h hA hl hm x hn xa xn xc S hb h0 hlen hS hz k8
    rw [k8]
    exact this
  by_cases k9 : x.kind = 9
  · have := lput_Moment h hA hl hm x hn xa xn xc S hb h0 hlen hS hz k9
    rw [k9]
    exact this
  by_cases k11 : x.kind = 11
  · have := lput_Raw h hA hl hm x hn xa xn xc S hb h0 hlen hS hz k11
    rw [k11]
    exact this
  exact lput_Flags h hA hl hm x hn xa xn xc S hb h0 hlen hS hz (by omega)
theorem alive8_state : De.step (De.step (De.step De.St.zero ⟨1, 48, false, [], []⟩) ⟨3, 5, false, [], []⟩) ⟨2, 0, false, [], []⟩ = ⟨0, [], [[48, 3, 2, 1, 5]]⟩ := by kernel_rfl
theorem alive8_mid : De.step (De.step De.St.zero ⟨1, 48, false, [], []⟩) ⟨3, 5, false, [], []⟩ = ⟨0, [(48, [[2, 1, 5]])], []⟩ := by kernel_rfl
set_option maxRecDepth 100000 in
set_option maxHeartbeats 1000000 in
theorem alive8_any (A : Nat → Addr) (w : World) (hA : BodiesOf A w) : Calls Tryz.prog 9 #[] w fun e w' => e = .returned (.bool true) ∧ w.grownBy w' none := by
  have HA := Lib.hid hA
  have h0 : PrW A w (fun k => k = w.heap.size) w.heap.size De.St.zero (w.alloc (.cells #[.slice none 0 0, .slice none 0 0, .nilIface] 51)) := PrW.new (grown_refl _ _)
  have H1 := Lib.hid (prOpen_step h0 hA ⟨1, 48, false, [], []⟩ rfl)
  have L0 := Lim.zero
  have hL1 : Hid (Lim 1000 (De.step De.St.zero ⟨1, 48, false, [], []⟩)) := Lib.hid (L0.step.mono (by decide))
  have hL2 : Hid (Lim 1000 (De.step (De.step De.St.zero ⟨1, 48, false, [], []⟩) ⟨3, 5, false, [], []⟩)) := Lib.hid (L0.step.step.mono (by decide))
  have hL3 : Hid (Lim 1000 (De.step (De.step (De.step De.St.zero ⟨1, 48, false, [], []⟩) ⟨3, 5, false, [], []⟩) ⟨2, 0, false, [], []⟩)) := Lib.hid (L0.step.step.step.mono (by decide))
  have hMd : Hid (∀ p ∈ (De.step (De.step De.St.zero ⟨1, 48, false, [], []⟩) ⟨3, 5, false, [], []⟩).op, Tl.made (p.1 : Nat) = true) := Lib.hid (by rw [alive8_mid]; simp; decide)
  have k1 : ((strOf [48, 3, 2, 1, 5]).toList == [48, 3, 2, 1, 5]) = true := by decide +kernel
  have HD : Hid (De.done (De.step (De.step (De.step De.St.zero ⟨1, 48, false, [], []⟩) ⟨3, 5, false, [], []⟩) ⟨2, 0, false, [], []⟩) = .ok [48, 3, 2, 1, 5]) := Lib.hid (by rw [alive8_state]; kernel_rfl)
  obtain ⟨S1, hS1⟩ : ∃ S, S = De.step De.St.zero ⟨1, 48, false, [], []⟩ := ⟨_, rfl⟩
  obtain ⟨S2, hS2⟩ : ∃ S, S = De.step S1 ⟨3, 5, false, [], []⟩ := ⟨_, rfl⟩
  obtain ⟨S3, hS3⟩ : ∃ S, S = De.step S2 ⟨2, 0, false, [], []⟩ := ⟨_, rfl⟩
  rw [← hS1] at H1 hL1 hL2 hL3 hMd HD
  rw [← hS2] at hL2 hL3 hMd HD
  rw [← hS3] at hL3 HD
  have HI : Hid (∀ F W, PrW A w F w.heap.size S1 W → Calls Tryz.prog 55 #[.pointer (some ⟨w.heap.size, 0, none⟩), .int .i64 5] W fun e w' => PrPost A w F w.heap.size W w' S2 e) := Lib.hid (fun F W h => by rw [hS2]; exact prInt_any h hA hL1.out ⟨3, 5, false, [], []⟩ rfl ⟨by decide, by decide⟩)
  have HCl : Hid (∀ F W, PrW A w F w.heap.size S2 W → Calls Tryz.prog 28 #[.pointer (some ⟨w.heap.size, 0, none⟩)] W fun e w' => PrPost A w F w.heap.size W w' S3 e) := Lib.hid (fun F W h => by rw [hS3]; exact prClose_any h hA.errs hL2.out hMd.out ⟨2, 0, false, [], []⟩ rfl)
  have HDn : Hid (∀ F W, PrW A w F w.heap.size S3 W → Calls Tryz.prog 27 #[.pointer (some ⟨w.heap.size, 0, none⟩)] W fun e w' => W.grownBy w' none ∧ ∃ a c, e = .returned (.tuple #[.slice a 5 c, .nilIface]) ∧ Bytes w' (.slice a 5 c) [48, 3, 2, 1, 5]) := Lib.hid (fun F W h => (prDone_any h hA.errs hL3.out).mono (fun e w' hp => by
    rw [HD.out] at hp
    obtain ⟨g1, a, c, g2, g3, _⟩ := hp
    exact ⟨g1, a, c, g2, g3⟩))
  clear hA h0 L0 hL1 hL2 hL3 hMd hS1 hS2 hS3 HD
  go_enter Tryz.func9, Tryz.ntmps9
  go_wp2_with (first
    | (go_at_call 25; refine H1.out.mono ?_; rintro e w3 ⟨rfl, k1, k2⟩; have K1 := Lib.hid k2; clear k1 k2)
    | (go_at_call 55; refine (HI.out _ _ K1.out).mono ?_; rintro e w4 ⟨rfl, k1, k2⟩; have K2 := Lib.hid k2; clear k1 k2)
    | (go_at_call 28; refine (HCl.out _ _ K2.out).mono ?_; rintro e w5 ⟨rfl, k1, k2⟩; have K3 := Lib.hid k2; clear k1 k2)
    | (go_at_call 27; refine (HDn.out _ _ K3.out).mono ?_; rintro e w6 ⟨hg6, a, c, rfl, hB6⟩; have G6 : Hid (w.grownBy w6 none) := Lib.hid (grown_join K3.out.base hg6); have c1 := conv_bytes (P := Tryz.prog) hB6 22 5 9 Tryz.underlying22 Tryz.underlying5 Tryz.underlying9; clear hg6 hB6))
  go_ret
  exact ⟨retBo (by simp), G6.out⟩
end Go.Proofs.YtagdcjpjbjboeaaGreatDoor
namespace Go.Proofs.YtagdcjpjbjboeaaGreatDoor
open Go.RowKit
set_option linter.unusedVariables false
/-- What long answers: where it says no, the values are few and small. -/
def LongPost (w w' : World) (n : Nat) (xs : List De.Val) (e : Ending) : Prop := ∃ q : Bool, e = .returned (.bool q) ∧ w.grownBy w' none ∧ (q = false → n ≤ 60 ∧ ∀ j, j < n → (xs.getD j De.none0).b.length ≤ 300 ∧ (xs.getD j De.none0).t.length ≤ 300)
set_option maxRecDepth 100000 in
set_option maxHeartbeats 1000000 in
theorem long_any (a : Option Addr) (sb so n c : Nat) (xs : List De.Val) (w : World) (hn : xs.length = n) (ha : 0 < n → a = some ⟨sb, so, none⟩ ∧ sb < w.heap.size) (hV : ValsAt w sb so xs) (hc : n ≤ 9223372036854775807) (hcc : n ≤ c) :
    Calls Tryz.prog 24 #[.slice a n c] w fun e w' => LongPost w w' n xs e := by
  have HV : Hid (∀ W, w.grownBy W none → ∀ j, j < n → a = some ⟨sb, so, none⟩ ∧ ∃ va vc S, W.cell? ⟨sb, so + j * 5, none⟩ = some (.int .i64 (xs.getD j De.none0).kind) ∧ W.cell? ⟨sb, so + j * 5 + 1, none⟩ = some (.int .i64 (xs.getD j De.none0).n) ∧ W.cell? ⟨sb, so + j * 5 + 2, none⟩ = some (.bool (xs.getD j De.none0).is) ∧
      W.cell? ⟨sb, so + j * 5 + 3, none⟩ = some (.slice va (xs.getD j De.none0).b.length vc) ∧ W.cell? ⟨sb, so + j * 5 + 4, none⟩ = some (.string S) ∧ S.size = (xs.getD j De.none0).t.length) := Lib.hid (fun W hW j hj => by
    obtain ⟨v, S, h0, h1, h2, h3, h4, h5, h6, h7, _⟩ := (hV.grown hW (fun h => (ha (by omega)).2)) j (by omega)
    obtain ⟨_, va, _, _, vc, rfl, _⟩ := h5
    exact ⟨(ha (by omega)).1, va, vc, S, h0, h1, h2, h3, h4, by rw [← h7, strL_len]⟩)
  clear hV
  by_cases h60 : 60 < n
  · clear HV hn ha
    go_enter Tryz.func24, Tryz.ntmps24
    go_wp2
    go_ret
    exact ⟨true, rfl, grown_refl _ _, fun h => by cases h⟩
  · clear ha
    go_enter Tryz.func24, Tryz.ntmps24
    go_wp2
    go_loopw [10] (fun i wr => ∃ j : Nat, j ≤ n ∧ i = .int .i64 j ∧ w.grownBy wr none ∧ ∀ k, k < j → (xs.getD k De.none0).b.length ≤ 300 ∧ (xs.getD k De.none0).t.length ≤ 300) (fun i _ => n - (intOf i).toNat)
    case atStart => exact ⟨0, Nat.zero_le _, rfl, grown_refl _ _, fun k hk => absurd hk (Nat.not_lt_zero _)⟩
    case round =>
      obtain ⟨j, hj, rfl, hg, hall⟩ := hrel
      have HG := Lib.hid hg
      have HAl := Lib.hid hall
      by_cases hjn : j < n
      · obtain ⟨rfl, va, vc, S, c0, c1, c2, c3, c4, hS⟩ := HV.out wr hg j hjn
        have HS := Lib.hid hS
        have hsbl : sb < wr.heap.size := World.block_lt_of_cell? wr _ c0
        obtain ⟨bl, hbl⟩ : ∃ bl, bl = (xs.getD j De.none0).b.length := ⟨_, rfl⟩
        obtain ⟨tl, htl⟩ : ∃ tl, tl = S.size := ⟨_, rfl⟩
        have HBl := Lib.hid hbl
        have HTl := Lib.hid htl
        rw [← hbl] at c3
        have HGa : Hid (∀ o, w.grownBy (wr.alloc o) none) := Lib.hid (fun o => grown_alloc hg o)
        generalize (xs.getD j De.none0).kind = kd at c0
        generalize (xs.getD j De.none0).n = nn at c1
        generalize (xs.getD j De.none0).is = is at c2
        clear hg hall hS hbl
        by_cases hb : 300 < bl
        · clear htl
          go_wp2
          go_ret
          exact ⟨true, rfl, HGa.out _, fun h => by cases h⟩
        · by_cases ht : 300 < S.size
          · clear htl
            go_wp2
            go_ret
            exact ⟨true, rfl, HGa.out _, fun h => by cases h⟩
          · have HB := Lib.hid hb
            have HT := Lib.hid ht
            clear htl
            go_wp2
            go_roundw
            case rel => exact ⟨j + 1, by omega, by go_num, HGa.out _, fun k hk => by
              by_cases e : k = j
              · subst e
                have h1 := HB.out
                have h2 := HT.out
                have h3 := HBl.out
                have h4 := HS.out
                omega
              · exact HAl.out k (by omega)⟩
            case measure => simp [intOf]; omega
      · obtain rfl : j = n := by omega
        clear hg hall
        go_wp2
        go_ret
        exact ⟨false, rfl, HG.out, fun _ => ⟨by omega, HAl.out⟩⟩
end Go.Proofs.YtagdcjpjbjboeaaGreatDoor
