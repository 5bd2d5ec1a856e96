import Derived.Test.YtgahhbompnbcdaaGreatDoorZf32
import Derived.Test.YtgahhbompnbcdaaGreatDoorZf33
import Derived.Test.YtgahhbompnbcdaaGreatDoorZf37
import Derived.Test.YtgahhbompnbcdaaGreatDoorZf39
import Derived.Test.YtgahhbompnbcdaaGreatDoorZf43
import Derived.Test.YtgahhbompnbcdaaGreatDoorZf44
import Derived.Test.YtgahhbompnbcdaaGreatDoorZf46
set_option linter.unusedVariables false
set_option linter.unusedSimpArgs false
namespace Go.Proofs.YtgahhbompnbcdaaGreatDoor
open Go.RowKit
set_option linter.unusedVariables false
theorem PrW.new {A : Nat → Addr} {W0 w : World} (hb : W0.grownBy w none) :
    PrW A W0 (fun k => k = w.heap.size) w.heap.size De.St.zero (w.alloc (.cells #[.slice none 0 0, .slice none 0 0, .nilIface] 31)) := by
  have hs : (w.alloc (.cells #[.slice none 0 0, .slice none 0 0, .nilIface] 31)).heap.size = w.heap.size + 1 := alloc_size _ _
  have h0 := hb.size
  refine ⟨grown_alloc hb _, fun k hk => ⟨by rw [hk]; exact h0, by rw [hs, hk]; omega⟩, rfl, .slice none 0 0, .slice none 0 0, alloc_at w _, fun _ => ⟨0, fun _ => .slice none 0 0, rfl, by omega, fun k hk => ?_, by simp [Value.ownBlock], by simp [Value.ownBlock], fun j hj => absurd hj (by omega), fun i j hi => absurd hi (by omega), ⟨[], ⟨rfl, .inl ⟨rfl, rfl⟩⟩, fun j hj => absurd hj (by omega)⟩, ⟨rfl, .inl ⟨rfl, rfl⟩⟩, by simp [De.St.zero], fun j hj => absurd hj (by omega)⟩⟩
  rcases hk with hk | hk | hk | ⟨j, hj, hk⟩
  · exact hk
  · exact absurd hk (by simp [Value.ownBlock])
  · exact absurd hk (by simp [Value.ownBlock])
  · omega
theorem prOpen_step {A : Nat → Addr} {W0 w : World} {F : Nat → Prop} {b : Nat} {s : De.St} (h : PrW A W0 F b s w) (hA : BodiesOf A W0) (v : De.Val) (hk : v.kind = 1) :
    Calls Tryz.prog 31 #[.pointer (some ⟨b, 0, none⟩), .int .i64 v.n] w fun e w' => PrPost A W0 F b w w' (De.step s v) e := by
  have hst : De.step s v = if s.e = 0 then De.opn s v.n else s := by
    unfold De.step
    by_cases he : s.e = 0
    · rw [if_pos he, if_neg (fun h => h he), if_pos hk]
    · rw [if_neg he, if_pos he]
  rw [hst]
  exact prOpen_any h hA.errs v.n
set_option maxRecDepth 100000 in
set_option maxHeartbeats 1000000 in
theorem lput_Open {A : Nat → Addr} {W0 w : World} {F : Nat → Prop} {b : Nat} {s : De.St} (h : PrW A W0 F b s w) (hA : BodiesOf A W0) (hl : Lim 1000 s) (hm : ∀ p ∈ s.op, Tl.made (p.1 : Nat) = true) (x : De.Val) (hn : De.I64 x.n) (xa : Option Addr) (xn xc : Nat) (S : ByteArray) (hb : Bytes w (.slice xa xn xc) x.b) (h0 : Whole0 (.slice xa xn xc)) (hlen : x.b.length ≤ 1000000) (hS : strL S = x.t) (hz : S.size ≤ 1000) (hk : x.kind = 1) :
    Calls Tryz.prog 10 #[.pointer (some ⟨b, 0, none⟩), .agg #[.int .i64 1, .int .i64 x.n, .bool x.is, .slice xa xn xc, .string S]] w fun e w' => PrPost A W0 F b w w' (De.step s x) e := by
  have HX := Lib.hid h
  have HC : Hid (∀ W, W = w.alloc (.cells #[.int .i64 1, .int .i64 x.n, .bool x.is, .slice xa xn xc, .string S] 38) → Calls Tryz.prog 31 #[.pointer (some ⟨b, 0, none⟩), .int .i64 x.n] W fun e w' => PrPost A W0 F b w w' (De.step s x) e) := Lib.hid (fun W hW => by
    subst hW
    have hga := World.grownBy_alloc w (.cells #[.int .i64 1, .int .i64 x.n, .bool x.is, .slice xa xn xc, .string S] 38) none
    have HY := Lib.hid (HX.out.grow hga)
    exact (prOpen_step HY.out hA x hk).mono (fun e w' hp => HX.out.after hga hp))
  obtain ⟨T, hT⟩ : ∃ T, T = De.step s x := ⟨_, rfl⟩
  rw [← hT] at HC ⊢
  clear h hA hl hm hb hS hlen hT
  go_enter Tryz.func10, Tryz.ntmps10
  go_wp2_with (go_at_call 31; refine (HC.out _ rfl).mono ?_; rintro e w3 ⟨rfl, k1, k2⟩; have K1 := Lib.hid k1; have K2 := Lib.hid k2; clear k1 k2)
  go_returns
  exact ⟨rfl, K1.out, K2.out⟩
set_option maxRecDepth 100000 in
set_option maxHeartbeats 1000000 in
theorem lput_Close {A : Nat → Addr} {W0 w : World} {F : Nat → Prop} {b : Nat} {s : De.St} (h : PrW A W0 F b s w) (hA : BodiesOf A W0) (hl : Lim 1000 s) (hm : ∀ p ∈ s.op, Tl.made (p.1 : Nat) = true) (x : De.Val) (hn : De.I64 x.n) (xa : Option Addr) (xn xc : Nat) (S : ByteArray) (hb : Bytes w (.slice xa xn xc) x.b) (h0 : Whole0 (.slice xa xn xc)) (hlen : x.b.length ≤ 1000000) (hS : strL S = x.t) (hz : S.size ≤ 1000) (hk : x.kind = 2) :
    Calls Tryz.prog 10 #[.pointer (some ⟨b, 0, none⟩), .agg #[.int .i64 2, .int .i64 x.n, .bool x.is, .slice xa xn xc, .string S]] w fun e w' => PrPost A W0 F b w w' (De.step s x) e := by
  have HX := Lib.hid h
  have HC : Hid (∀ W, W = w.alloc (.cells #[.int .i64 2, .int .i64 x.n, .bool x.is, .slice xa xn xc, .string S] 38) → Calls Tryz.prog 32 #[.pointer (some ⟨b, 0, none⟩)] W fun e w' => PrPost A W0 F b w w' (De.step s x) e) := Lib.hid (fun W hW => by
    subst hW
    have hga := World.grownBy_alloc w (.cells #[.int .i64 2, .int .i64 x.n, .bool x.is, .slice xa xn xc, .string S] 38) none
    have HY := Lib.hid (HX.out.grow hga)
    exact (prClose_any HY.out hA.errs hl hm x hk).mono (fun e w' hp => HX.out.after hga hp))
  obtain ⟨T, hT⟩ : ∃ T, T = De.step s x := ⟨_, rfl⟩
  rw [← hT] at HC ⊢
  clear h hA hl hm hb hS hlen hT
  go_enter Tryz.func10, Tryz.ntmps10
  go_wp2_with (go_at_call 32; refine (HC.out _ rfl).mono ?_; rintro e w3 ⟨rfl, k1, k2⟩; have K1 := Lib.hid k1; have K2 := Lib.hid k2; clear k1 k2)
  go_returns
  exact ⟨rfl, K1.out, K2.out⟩
set_option maxRecDepth 100000 in
set_option maxHeartbeats 1000000 in
theorem lput_Int {A : Nat → Addr} {W0 w : World} {F : Nat → Prop} {b : Nat} {s : De.St} (h : PrW A W0 F b s w) (hA : BodiesOf A W0) (hl : Lim 1000 s) (hm : ∀ p ∈ s.op, Tl.made (p.1 : Nat) = true) (x : De.Val) (hn : De.I64 x.n) (xa : Option Addr) (xn xc : Nat) (S : ByteArray) (hb : Bytes w (.slice xa xn xc) x.b) (h0 : Whole0 (.slice xa xn xc)) (hlen : x.b.length ≤ 1000000) (hS : strL S = x.t) (hz : S.size ≤ 1000) (hk : x.kind = 3) :
    Calls Tryz.prog 10 #[.pointer (some ⟨b, 0, none⟩), .agg #[.int .i64 3, .int .i64 x.n, .bool x.is, .slice xa xn xc, .string S]] w fun e w' => PrPost A W0 F b w w' (De.step s x) e := by
  have HX := Lib.hid h
  have HC : Hid (∀ W, W = w.alloc (.cells #[.int .i64 3, .int .i64 x.n, .bool x.is, .slice xa xn xc, .string S] 38) → Calls Tryz.prog 45 #[.pointer (some ⟨b, 0, none⟩), .int .i64 x.n] W fun e w' => PrPost A W0 F b w w' (De.step s x) e) := Lib.hid (fun W hW => by
    subst hW
    have hga := World.grownBy_alloc w (.cells #[.int .i64 3, .int .i64 x.n, .bool x.is, .slice xa xn xc, .string S] 38) none
    have HY := Lib.hid (HX.out.grow hga)
    exact (prInt_any HY.out hA hl x hk hn).mono (fun e w' hp => HX.out.after hga hp))
  obtain ⟨T, hT⟩ : ∃ T, T = De.step s x := ⟨_, rfl⟩
  rw [← hT] at HC ⊢
  clear h hA hl hm hb hS hlen hT
  go_enter Tryz.func10, Tryz.ntmps10
  go_wp2_with (go_at_call 45; refine (HC.out _ rfl).mono ?_; rintro e w3 ⟨rfl, k1, k2⟩; have K1 := Lib.hid k1; have K2 := Lib.hid k2; clear k1 k2)
  go_returns
  exact ⟨rfl, K1.out, K2.out⟩
set_option maxRecDepth 100000 in
set_option maxHeartbeats 1000000 in
theorem lput_Enum {A : Nat → Addr} {W0 w : World} {F : Nat → Prop} {b : Nat} {s : De.St} (h : PrW A W0 F b s w) (hA : BodiesOf A W0) (hl : Lim 1000 s) (hm : ∀ p ∈ s.op, Tl.made (p.1 : Nat) = true) (x : De.Val) (hn : De.I64 x.n) (xa : Option Addr) (xn xc : Nat) (S : ByteArray) (hb : Bytes w (.slice xa xn xc) x.b) (h0 : Whole0 (.slice xa xn xc)) (hlen : x.b.length ≤ 1000000) (hS : strL S = x.t) (hz : S.size ≤ 1000) (hk : x.kind = 4) :
    Calls Tryz.prog 10 #[.pointer (some ⟨b, 0, none⟩), .agg #[.int .i64 4, .int .i64 x.n, .bool x.is, .slice xa xn xc, .string S]] w fun e w' => PrPost A W0 F b w w' (De.step s x) e := by
  have HX := Lib.hid h
  have HC : Hid (∀ W, W = w.alloc (.cells #[.int .i64 4, .int .i64 x.n, .bool x.is, .slice xa xn xc, .string S] 38) → Calls Tryz.prog 46 #[.pointer (some ⟨b, 0, none⟩), .int .i64 x.n] W fun e w' => PrPost A W0 F b w w' (De.step s x) e) := Lib.hid (fun W hW => by
    subst hW
    have hga := World.grownBy_alloc w (.cells #[.int .i64 4, .int .i64 x.n, .bool x.is, .slice xa xn xc, .string S] 38) none
    have HY := Lib.hid (HX.out.grow hga)
    exact (prEnum_any HY.out hA hl x hk hn).mono (fun e w' hp => HX.out.after hga hp))
  obtain ⟨T, hT⟩ : ∃ T, T = De.step s x := ⟨_, rfl⟩
  rw [← hT] at HC ⊢
  clear h hA hl hm hb hS hlen hT
  go_enter Tryz.func10, Tryz.ntmps10
  go_wp2_with (go_at_call 46; refine (HC.out _ rfl).mono ?_; rintro e w3 ⟨rfl, k1, k2⟩; have K1 := Lib.hid k1; have K2 := Lib.hid k2; clear k1 k2)
  go_returns
  exact ⟨rfl, K1.out, K2.out⟩
set_option maxRecDepth 100000 in
set_option maxHeartbeats 1000000 in
theorem lput_Bool {A : Nat → Addr} {W0 w : World} {F : Nat → Prop} {b : Nat} {s : De.St} (h : PrW A W0 F b s w) (hA : BodiesOf A W0) (hl : Lim 1000 s) (hm : ∀ p ∈ s.op, Tl.made (p.1 : Nat) = true) (x : De.Val) (hn : De.I64 x.n) (xa : Option Addr) (xn xc : Nat) (S : ByteArray) (hb : Bytes w (.slice xa xn xc) x.b) (h0 : Whole0 (.slice xa xn xc)) (hlen : x.b.length ≤ 1000000) (hS : strL S = x.t) (hz : S.size ≤ 1000) (hk : x.kind = 5) :
    Calls Tryz.prog 10 #[.pointer (some ⟨b, 0, none⟩), .agg #[.int .i64 5, .int .i64 x.n, .bool x.is, .slice xa xn xc, .string S]] w fun e w' => PrPost A W0 F b w w' (De.step s x) e := by
  have HX := Lib.hid h
  have HC : Hid (∀ W, W = w.alloc (.cells #[.int .i64 5, .int .i64 x.n, .bool x.is, .slice xa xn xc, .string S] 38) → Calls Tryz.prog 47 #[.pointer (some ⟨b, 0, none⟩), .bool x.is] W fun e w' => PrPost A W0 F b w w' (De.step s x) e) := Lib.hid (fun W hW => by
    subst hW
    have hga := World.grownBy_alloc w (.cells #[.int .i64 5, .int .i64 x.n, .bool x.is, .slice xa xn xc, .string S] 38) none
    have HY := Lib.hid (HX.out.grow hga)
    exact (prBool_any HY.out hA hl x hk hn).mono (fun e w' hp => HX.out.after hga hp))
  obtain ⟨T, hT⟩ : ∃ T, T = De.step s x := ⟨_, rfl⟩
  rw [← hT] at HC ⊢
  clear h hA hl hm hb hS hlen hT
  go_enter Tryz.func10, Tryz.ntmps10
  go_wp2_with (go_at_call 47; refine (HC.out _ rfl).mono ?_; rintro e w3 ⟨rfl, k1, k2⟩; have K1 := Lib.hid k1; have K2 := Lib.hid k2; clear k1 k2)
  go_returns
  exact ⟨rfl, K1.out, K2.out⟩
set_option maxRecDepth 100000 in
set_option maxHeartbeats 1000000 in
theorem lput_Octets {A : Nat → Addr} {W0 w : World} {F : Nat → Prop} {b : Nat} {s : De.St} (h : PrW A W0 F b s w) (hA : BodiesOf A W0) (hl : Lim 1000 s) (hm : ∀ p ∈ s.op, Tl.made (p.1 : Nat) = true) (x : De.Val) (hn : De.I64 x.n) (xa : Option Addr) (xn xc : Nat) (S : ByteArray) (hb : Bytes w (.slice xa xn xc) x.b) (h0 : Whole0 (.slice xa xn xc)) (hlen : x.b.length ≤ 1000000) (hS : strL S = x.t) (hz : S.size ≤ 1000) (hk : x.kind = 6) :
    Calls Tryz.prog 10 #[.pointer (some ⟨b, 0, none⟩), .agg #[.int .i64 6, .int .i64 x.n, .bool x.is, .slice xa xn xc, .string S]] w fun e w' => PrPost A W0 F b w w' (De.step s x) e := by
  have HX := Lib.hid h
  have HC : Hid (∀ W, W = w.alloc (.cells #[.int .i64 6, .int .i64 x.n, .bool x.is, .slice xa xn xc, .string S] 38) → Calls Tryz.prog 48 #[.pointer (some ⟨b, 0, none⟩), .slice xa xn xc] W fun e w' => PrPost A W0 F b w w' (De.step s x) e) := Lib.hid (fun W hW => by
    subst hW
    have hga := World.grownBy_alloc w (.cells #[.int .i64 6, .int .i64 x.n, .bool x.is, .slice xa xn xc, .string S] 38) none
    have HY := Lib.hid (HX.out.grow hga)
    exact (prOctets_any HY.out hA hl x hk xa xn xc (hb.grown hga) h0 hlen).mono (fun e w' hp => HX.out.after hga hp))
  obtain ⟨T, hT⟩ : ∃ T, T = De.step s x := ⟨_, rfl⟩
  rw [← hT] at HC ⊢
  clear h hA hl hm hb hS hlen hT
  go_enter Tryz.func10, Tryz.ntmps10
  go_wp2_with (go_at_call 48; refine (HC.out _ rfl).mono ?_; rintro e w3 ⟨rfl, k1, k2⟩; have K1 := Lib.hid k1; have K2 := Lib.hid k2; clear k1 k2)
  go_returns
  exact ⟨rfl, K1.out, K2.out⟩
set_option maxRecDepth 100000 in
set_option maxHeartbeats 1000000 in
theorem lput_Text {A : Nat → Addr} {W0 w : World} {F : Nat → Prop} {b : Nat} {s : De.St} (h : PrW A W0 F b s w) (hA : BodiesOf A W0) (hl : Lim 1000 s) (hm : ∀ p ∈ s.op, Tl.made (p.1 : Nat) = true) (x : De.Val) (hn : De.I64 x.n) (xa : Option Addr) (xn xc : Nat) (S : ByteArray) (hb : Bytes w (.slice xa xn xc) x.b) (h0 : Whole0 (.slice xa xn xc)) (hlen : x.b.length ≤ 1000000) (hS : strL S = x.t) (hz : S.size ≤ 1000) (hk : x.kind = 7) :
    Calls Tryz.prog 10 #[.pointer (some ⟨b, 0, none⟩), .agg #[.int .i64 7, .int .i64 x.n, .bool x.is, .slice xa xn xc, .string S]] w fun e w' => PrPost A W0 F b w w' (De.step s x) e := by
  have HX := Lib.hid h
  have HC : Hid (∀ W, W = w.alloc (.cells #[.int .i64 7, .int .i64 x.n, .bool x.is, .slice xa xn xc, .string S] 38) → Calls Tryz.prog 49 #[.pointer (some ⟨b, 0, none⟩), .string S, .int .i64 x.n] W fun e w' => PrPost A W0 F b w w' (De.step s x) e) := Lib.hid (fun W hW => by
    subst hW
    have hga := World.grownBy_alloc w (.cells #[.int .i64 7, .int .i64 x.n, .bool x.is, .slice xa xn xc, .string S] 38) none
    have HY := Lib.hid (HX.out.grow hga)
    exact (prText_any HY.out hA hl x hk hn S hS hz).mono (fun e w' hp => HX.out.after hga hp))
  obtain ⟨T, hT⟩ : ∃ T, T = De.step s x := ⟨_, rfl⟩
  rw [← hT] at HC ⊢
  clear h hA hl hm hb hS hlen hT
  go_enter Tryz.func10, Tryz.ntmps10
  go_wp2_with (go_at_call 49; refine (HC.out _ rfl).mono ?_; rintro e w3 ⟨rfl, k1, k2⟩; have K1 := Lib.hid k1; have K2 := Lib.hid k2; clear k1 k2)
  go_returns
  exact ⟨rfl, K1.out, K2.out⟩
set_option maxRecDepth 100000 in
set_option maxHeartbeats 1000000 in
theorem lput_OID {A : Nat → Addr} {W0 w : World} {F : Nat → Prop} {b : Nat} {s : De.St} (h : PrW A W0 F b s w) (hA : BodiesOf A W0) (hl : Lim 1000 s) (hm : ∀ p ∈ s.op, Tl.made (p.1 : Nat) = true) (x : De.Val) (hn : De.I64 x.n) (xa : Option Addr) (xn xc : Nat) (S : ByteArray) (hb : Bytes w (.slice xa xn xc) x.b) (h0 : Whole0 (.slice xa xn xc)) (hlen : x.b.length ≤ 1000000) (hS : strL S = x.t) (hz : S.size ≤ 1000) (hk : x.kind = 8) :
    Calls Tryz.prog 10 #[.pointer (some ⟨b, 0, none⟩), .agg #[.int .i64 8, .int .i64 x.n, .bool x.is, .slice xa xn xc, .string S]] w fun e w' => PrPost A W0 F b w w' (De.step s x) e := by
  have HX := Lib.hid h
  have HC : Hid (∀ W, W = w.alloc (.cells #[.int .i64 8, .int .i64 x.n, .bool x.is, .slice xa xn xc, .string S] 38) → Calls Tryz.prog 50 #[.pointer (some ⟨b, 0, none⟩), .string S] W fun e w' => PrPost A W0 F b w w' (De.step s x) e) := Lib.hid (fun W hW => by
    subst hW
    have hga := World.grownBy_alloc w (.cells #[.int .i64 8, .int .i64 x.n, .bool x.is, .slice xa xn xc, .string S] 38) none
    have HY := Lib.hid (HX.out.grow hga)
    exact (prOID_any HY.out hA hl x hk S hS hz).mono (fun e w' hp => HX.out.after hga hp))
  obtain ⟨T, hT⟩ : ∃ T, T = De.step s x := ⟨_, rfl⟩
  rw [← hT] at HC ⊢
  clear h hA hl hm hb hS hlen hT
  go_enter Tryz.func10, Tryz.ntmps10
  go_wp2_with (go_at_call 50; refine (HC.out _ rfl).mono ?_; rintro e w3 ⟨rfl, k1, k2⟩; have K1 := Lib.hid k1; have K2 := Lib.hid k2; clear k1 k2)
  go_returns
  exact ⟨rfl, K1.out, K2.out⟩
set_option maxRecDepth 100000 in
set_option maxHeartbeats 1000000 in
theorem lput_Moment {A : Nat → Addr} {W0 w : World} {F : Nat → Prop} {b : Nat} {s : De.St} (h : PrW A W0 F b s w) (hA : BodiesOf A W0) (hl : Lim 1000 s) (hm : ∀ p ∈ s.op, Tl.made (p.1 : Nat) = true) (x : De.Val) (hn : De.I64 x.n) (xa : Option Addr) (xn xc : Nat) (S : ByteArray) (hb : Bytes w (.slice xa xn xc) x.b) (h0 : Whole0 (.slice xa xn xc)) (hlen : x.b.length ≤ 1000000) (hS : strL S = x.t) (hz : S.size ≤ 1000) (hk : x.kind = 9) :
    Calls Tryz.prog 10 #[.pointer (some ⟨b, 0, none⟩), .agg #[.int .i64 9, .int .i64 x.n, .bool x.is, .slice xa xn xc, .string S]] w fun e w' => PrPost A W0 F b w w' (De.step s x) e := by
  have HX := Lib.hid h
  have HC : Hid (∀ W, W = w.alloc (.cells #[.int .i64 9, .int .i64 x.n, .bool x.is, .slice xa xn xc, .string S] 38) → Calls Tryz.prog 51 #[.pointer (some ⟨b, 0, none⟩), .int .i64 x.n] W fun e w' => PrPost A W0 F b w w' (De.step s x) e) := Lib.hid (fun W hW => by
    subst hW
    have hga := World.grownBy_alloc w (.cells #[.int .i64 9, .int .i64 x.n, .bool x.is, .slice xa xn xc, .string S] 38) none
    have HY := Lib.hid (HX.out.grow hga)
    exact (prMoment_any HY.out hA hl x hk hn).mono (fun e w' hp => HX.out.after hga hp))
  obtain ⟨T, hT⟩ : ∃ T, T = De.step s x := ⟨_, rfl⟩
  rw [← hT] at HC ⊢
  clear h hA hl hm hb hS hlen hT
  go_enter Tryz.func10, Tryz.ntmps10
  go_wp2_with (go_at_call 51; refine (HC.out _ rfl).mono ?_; rintro e w3 ⟨rfl, k1, k2⟩; have K1 := Lib.hid k1; have K2 := Lib.hid k2; clear k1 k2)
  go_returns
  exact ⟨rfl, K1.out, K2.out⟩
set_option maxRecDepth 100000 in
set_option maxHeartbeats 1000000 in
theorem lput_Raw {A : Nat → Addr} {W0 w : World} {F : Nat → Prop} {b : Nat} {s : De.St} (h : PrW A W0 F b s w) (hA : BodiesOf A W0) (hl : Lim 1000 s) (hm : ∀ p ∈ s.op, Tl.made (p.1 : Nat) = true) (x : De.Val) (hn : De.I64 x.n) (xa : Option Addr) (xn xc : Nat) (S : ByteArray) (hb : Bytes w (.slice xa xn xc) x.b) (h0 : Whole0 (.slice xa xn xc)) (hlen : x.b.length ≤ 1000000) (hS : strL S = x.t) (hz : S.size ≤ 1000) (hk : x.kind = 11) :
    Calls Tryz.prog 10 #[.pointer (some ⟨b, 0, none⟩), .agg #[.int .i64 11, .int .i64 x.n, .bool x.is, .slice xa xn xc, .string S]] w fun e w' => PrPost A W0 F b w w' (De.step s x) e := by
  have HX := Lib.hid h
  have HC : Hid (∀ W, W = w.alloc (.cells #[.int .i64 11, .int .i64 x.n, .bool x.is, .slice xa xn xc, .string S] 38) → Calls Tryz.prog 52 #[.pointer (some ⟨b, 0, none⟩), .slice xa xn xc] W fun e w' => PrPost A W0 F b w w' (De.step s x) e) := Lib.hid (fun W hW => by
    subst hW
    have hga := World.grownBy_alloc w (.cells #[.int .i64 11, .int .i64 x.n, .bool x.is, .slice xa xn xc, .string S] 38) none
    have HY := Lib.hid (HX.out.grow hga)
    exact (prRaw_any HY.out hA.errs hl x hk xa xn xc (hb.grown hga) h0 hlen).mono (fun e w' hp => HX.out.after hga hp))
  obtain ⟨T, hT⟩ : ∃ T, T = De.step s x := ⟨_, rfl⟩
  rw [← hT] at HC ⊢
  clear h hA hl hm hb hS hlen hT
  go_enter Tryz.func10, Tryz.ntmps10
  go_wp2_with (go_at_call 52; refine (HC.out _ rfl).mono ?_; rintro e w3 ⟨rfl, k1, k2⟩; have K1 := Lib.hid k1; have K2 := Lib.hid k2; clear k1 k2)
  go_returns
  exact ⟨rfl, K1.out, K2.out⟩
set_option maxRecDepth 100000 in
set_option maxHeartbeats 1000000 in
theorem lput_Flags {A : Nat → Addr} {W0 w : World} {F : Nat → Prop} {b : Nat} {s : De.St} (h : PrW A W0 F b s w) (hA : BodiesOf A W0) (hl : Lim 1000 s) (hm : ∀ p ∈ s.op, Tl.made (p.1 : Nat) = true) (x : De.Val) (hn : De.I64 x.n) (xa : Option Addr) (xn xc : Nat) (S : ByteArray) (hb : Bytes w (.slice xa xn xc) x.b) (h0 : Whole0 (.slice xa xn xc)) (hlen : x.b.length ≤ 1000000) (hS : strL S = x.t) (hz : S.size ≤ 1000) (hk : ¬ ((1 ≤ x.kind ∧ x.kind ≤ 9) ∨ x.kind = 11)) :
    Calls Tryz.prog 10 #[.pointer (some ⟨b, 0, none⟩), .agg #[.int .i64 x.kind, .int .i64 x.n, .bool x.is, .slice xa xn xc, .string S]] w fun e w' => PrPost A W0 F b w w' (De.step s x) e := by
  have HX := Lib.hid h
  have z1 : (x.kind == 1) = false := beq_eq_false_iff_ne.2 (by omega)
  have z2 : (x.kind == 2) = false := beq_eq_false_iff_ne.2 (by omega)
  have z3 : (x.kind == 3) = false := beq_eq_false_iff_ne.2 (by omega)
  have z4 : (x.kind == 4) = false := beq_eq_false_iff_ne.2 (by omega)
  have z5 : (x.kind == 5) = false := beq_eq_false_iff_ne.2 (by omega)
  have z6 : (x.kind == 6) = false := beq_eq_false_iff_ne.2 (by omega)
  have z7 : (x.kind == 7) = false := beq_eq_false_iff_ne.2 (by omega)
  have z8 : (x.kind == 8) = false := beq_eq_false_iff_ne.2 (by omega)
  have z9 : (x.kind == 9) = false := beq_eq_false_iff_ne.2 (by omega)
  have z11 : (x.kind == 11) = false := beq_eq_false_iff_ne.2 (by omega)
  have HC : Hid (∀ W, W = w.alloc (.cells #[.int .i64 x.kind, .int .i64 x.n, .bool x.is, .slice xa xn xc, .string S] 38) → Calls Tryz.prog 53 #[.pointer (some ⟨b, 0, none⟩), .int .i64 x.n] W fun e w' => PrPost A W0 F b w w' (De.step s x) e) := Lib.hid (fun W hW => by
    subst hW
    have hga := World.grownBy_alloc w (.cells #[.int .i64 x.kind, .int .i64 x.n, .bool x.is, .slice xa xn xc, .string S] 38) none
    have HY := Lib.hid (HX.out.grow hga)
    exact (prFlags_any HY.out hA hl x (by omega) hn).mono (fun e w' hp => HX.out.after hga hp))
  obtain ⟨T, hT⟩ : ∃ T, T = De.step s x := ⟨_, rfl⟩
  rw [← hT] at HC ⊢
  clear h hA hl hm hb hS hlen hT
  go_enter Tryz.func10, Tryz.ntmps10
  go_wp2_with (go_at_call 53; refine (HC.out _ rfl).mono ?_; rintro e w3 ⟨rfl, k1, k2⟩; have K1 := Lib.hid k1; have K2 := Lib.hid k2; clear k1 k2)
  go_returns
  exact ⟨rfl, K1.out, K2.out⟩
/-- The law's put: a value's step. -/
theorem lput_any {A : Nat → Addr} {W0 w : World} {F : Nat → Prop} {b : Nat} {s : De.St} (h : PrW A W0 F b s w) (hA : BodiesOf A W0) (hl : Lim 1000 s) (hm : ∀ p ∈ s.op, Tl.made (p.1 : Nat) = true) (v : Value) (x : De.Val) (hn : De.I64 x.n) (hv : ValV w v x) (hlen : x.b.length ≤ 1000000) :
    Calls Tryz.prog 10 #[.pointer (some ⟨b, 0, none⟩), v] w fun e w' => PrPost A W0 F b w w' (De.step s x) e := by
  obtain ⟨bv, S, rfl, hb, h0, hS, hz⟩ := hv
  obtain ⟨xa, xn, xc, rfl⟩ : ∃ xa xn xc, bv = .slice xa xn xc := by
    obtain ⟨_, a, _, _, c, rfl, _⟩ := hb
    exact ⟨a, _, c, rfl⟩
  by_cases k1 : x.kind = 1
  · have := lput_Open h hA hl hm x hn xa xn xc S hb h0 hlen hS hz k1
    rw [k1]
    exact this
  by_cases k2 : x.kind = 2
  · have := lput_Close h hA hl hm x hn xa xn xc S hb h0 hlen hS hz k2
    rw [k2]
    exact this
  by_cases k3 : x.kind = 3
  · have := lput_Int h hA hl hm x hn xa xn xc S hb h0 hlen hS hz k3
    rw [k3]
    exact this
  by_cases k4 : x.kind = 4
  · have := lput_Enum h hA hl hm x hn xa xn xc S hb h0 hlen hS hz k4
    rw [k4]
    exact this
  by_cases k5 : x.kind = 5
  · have := lput_Bool h hA hl hm x hn xa xn xc S hb h0 hlen hS hz k5
    rw [k5]
    exact this
  by_cases k6 : x.kind = 6
  · have := lput_Octets h hA hl hm x hn xa xn xc S hb h0 hlen hS hz k6
    rw [k6]
    exact this
  by_cases k7 : x.kind = 7
  · have := lput_Text h hA hl hm x hn xa xn xc S hb h0 hlen hS hz k7
    rw [k7]
    exact this
  by_cases k8 : x.kind = 8
  · have := lput_OID h hA hl hm x hn xa xn xc S hb h0 hlen hS hz k8
    rw [k8]
    exact this
  by_cases k9 : x.kind = 9
  · have := lput_Moment h hA hl hm x hn xa xn xc S hb h0 hlen hS hz k9
    rw [k9]
    exact this
  by_cases k11 : x.kind = 11
  · have := lput_Raw h hA hl hm x hn xa xn xc S hb h0 hlen hS hz k11
    rw [k11]
    exact this
  exact lput_Flags h hA hl hm x hn xa xn xc S hb h0 hlen hS hz (by omega)
theorem alive8_state : De.step (De.step (De.step De.St.zero ⟨1, 48, false, [], []⟩) ⟨3, 5, false, [], []⟩) ⟨2, 0, false, [], []⟩ = ⟨0, [], [[48, 3, 2, 1, 5]]⟩ := by kernel_rfl
theorem alive8_mid : De.step (De.step De.St.zero ⟨1, 48, false, [], []⟩) ⟨3, 5, false, [], []⟩ = ⟨0, [(48, [[2, 1, 5]])], []⟩ := by kernel_rfl
set_option maxRecDepth 100000 in
set_option maxHeartbeats 1000000 in
theorem alive8_any (A : Nat → Addr) (w : World) (hA : BodiesOf A w) : Calls Tryz.prog 8 #[] w fun e w' => e = .returned (.bool true) ∧ w.grownBy w' none := by
  have HA := Lib.hid hA
  have h0 : PrW A w (fun k => k = w.heap.size) w.heap.size De.St.zero (w.alloc (.cells #[.slice none 0 0, .slice none 0 0, .nilIface] 31)) := PrW.new (grown_refl _ _)
  have H1 := Lib.hid (prOpen_step h0 hA ⟨1, 48, false, [], []⟩ rfl)
  have L0 := Lim.zero
  have hL1 : Hid (Lim 1000 (De.step De.St.zero ⟨1, 48, false, [], []⟩)) := Lib.hid (L0.step.mono (by decide))
  have hL2 : Hid (Lim 1000 (De.step (De.step De.St.zero ⟨1, 48, false, [], []⟩) ⟨3, 5, false, [], []⟩)) := Lib.hid (L0.step.step.mono (by decide))
  have hL3 : Hid (Lim 1000 (De.step (De.step (De.step De.St.zero ⟨1, 48, false, [], []⟩) ⟨3, 5, false, [], []⟩) ⟨2, 0, false, [], []⟩)) := Lib.hid (L0.step.step.step.mono (by decide))
  have hMd : Hid (∀ p ∈ (De.step (De.step De.St.zero ⟨1, 48, false, [], []⟩) ⟨3, 5, false, [], []⟩).op, Tl.made (p.1 : Nat) = true) := Lib.hid (by rw [alive8_mid]; simp; decide)
  have k1 : ((strOf [48, 3, 2, 1, 5]).toList == [48, 3, 2, 1, 5]) = true := by decide +kernel
  have HD : Hid (De.done (De.step (De.step (De.step De.St.zero ⟨1, 48, false, [], []⟩) ⟨3, 5, false, [], []⟩) ⟨2, 0, false, [], []⟩) = .ok [48, 3, 2, 1, 5]) := Lib.hid (by rw [alive8_state]; kernel_rfl)
  obtain ⟨S1, hS1⟩ : ∃ S, S = De.step De.St.zero ⟨1, 48, false, [], []⟩ := ⟨_, rfl⟩
  obtain ⟨S2, hS2⟩ : ∃ S, S = De.step S1 ⟨3, 5, false, [], []⟩ := ⟨_, rfl⟩
  obtain ⟨S3, hS3⟩ : ∃ S, S = De.step S2 ⟨2, 0, false, [], []⟩ := ⟨_, rfl⟩
  rw [← hS1] at H1 hL1 hL2 hL3 hMd HD
  rw [← hS2] at hL2 hL3 hMd HD
  rw [← hS3] at hL3 HD
  have HI : Hid (∀ F W, PrW A w F w.heap.size S1 W → Calls Tryz.prog 45 #[.pointer (some ⟨w.heap.size, 0, none⟩), .int .i64 5] W fun e w' => PrPost A w F w.heap.size W w' S2 e) := Lib.hid (fun F W h => by rw [hS2]; exact prInt_any h hA hL1.out ⟨3, 5, false, [], []⟩ rfl ⟨by decide, by decide⟩)
  have HCl : Hid (∀ F W, PrW A w F w.heap.size S2 W → Calls Tryz.prog 32 #[.pointer (some ⟨w.heap.size, 0, none⟩)] W fun e w' => PrPost A w F w.heap.size W w' S3 e) := Lib.hid (fun F W h => by rw [hS3]; exact prClose_any h hA.errs hL2.out hMd.out ⟨2, 0, false, [], []⟩ rfl)
  have HDn : Hid (∀ F W, PrW A w F w.heap.size S3 W → Calls Tryz.prog 12 #[.pointer (some ⟨w.heap.size, 0, none⟩)] W fun e w' => W.grownBy w' none ∧ ∃ a c, e = .returned (.tuple #[.slice a 5 c, .nilIface]) ∧ Bytes w' (.slice a 5 c) [48, 3, 2, 1, 5]) := Lib.hid (fun F W h => (prDone_any h hA.errs hL3.out).mono (fun e w' hp => by
    rw [HD.out] at hp
    obtain ⟨g1, a, c, g2, g3, _⟩ := hp
    exact ⟨g1, a, c, g2, g3⟩))
  clear hA h0 L0 hL1 hL2 hL3 hMd hS1 hS2 hS3 HD
  go_enter Tryz.func8, Tryz.ntmps8
  go_wp2_with (first
    | (go_at_call 31; refine H1.out.mono ?_; rintro e w3 ⟨rfl, k1, k2⟩; have K1 := Lib.hid k2; clear k1 k2)
    | (go_at_call 45; refine (HI.out _ _ K1.out).mono ?_; rintro e w4 ⟨rfl, k1, k2⟩; have K2 := Lib.hid k2; clear k1 k2)
    | (go_at_call 32; refine (HCl.out _ _ K2.out).mono ?_; rintro e w5 ⟨rfl, k1, k2⟩; have K3 := Lib.hid k2; clear k1 k2)
    | (go_at_call 12; refine (HDn.out _ _ K3.out).mono ?_; rintro e w6 ⟨hg6, a, c, rfl, hB6⟩; have G6 : Hid (w.grownBy w6 none) := Lib.hid (grown_join K3.out.base hg6); have c1 := conv_bytes (P := Tryz.prog) hB6 27 5 9 Tryz.underlying27 Tryz.underlying5 Tryz.underlying9; clear hg6 hB6))
  go_ret
  exact ⟨retBo (by simp), G6.out⟩
end Go.Proofs.YtgahhbompnbcdaaGreatDoor
namespace Go.Proofs.YtgahhbompnbcdaaGreatDoor
open Go.RowKit
set_option linter.unusedVariables false
theorem bytes_nil0 (w : World) : Bytes w (.slice none 0 0) [] := ⟨by simp, none, 0, 0, 0, rfl, Nat.le_refl _, fun h => absurd h (Nat.lt_irrefl _), fun j hj => absurd hj (Nat.not_lt_zero _)⟩
/-- What long answers: where it says no, the values are few and small. -/
def LongPost (w w' : World) (n : Nat) (xs : List De.Val) (e : Ending) : Prop := ∃ q : Bool, e = .returned (.bool q) ∧ w.grownBy w' none ∧ (q = false → n ≤ 60 ∧ ∀ j, j < n → (xs.getD j De.none0).b.length ≤ 300 ∧ (xs.getD j De.none0).t.length ≤ 300)
set_option maxRecDepth 100000 in
set_option maxHeartbeats 1000000 in
theorem long_any (a : Option Addr) (sb so n c : Nat) (xs : List De.Val) (w : World) (hn : xs.length = n) (ha : 0 < n → a = some ⟨sb, so, none⟩ ∧ sb < w.heap.size) (hV : ValsAt w sb so xs) (hc : n ≤ 9223372036854775807) (hcc : n ≤ c) :
    Calls Tryz.prog 9 #[.slice a n c] w fun e w' => LongPost w w' n xs e := by
  have HV : Hid (∀ W, w.grownBy W none → ∀ j, j < n → a = some ⟨sb, so, none⟩ ∧ ∃ va vc S, W.cell? ⟨sb, so + j * 5, none⟩ = some (.int .i64 (xs.getD j De.none0).kind) ∧ W.cell? ⟨sb, so + j * 5 + 1, none⟩ = some (.int .i64 (xs.getD j De.none0).n) ∧ W.cell? ⟨sb, so + j * 5 + 2, none⟩ = some (.bool (xs.getD j De.none0).is) ∧
      W.cell? ⟨sb, so + j * 5 + 3, none⟩ = some (.slice va (xs.getD j De.none0).b.length vc) ∧ W.cell? ⟨sb, so + j * 5 + 4, none⟩ = some (.string S) ∧ S.size = (xs.getD j De.none0).t.length) := Lib.hid (fun W hW j hj => by
    obtain ⟨v, S, h0, h1, h2, h3, h4, h5, h6, h7, _⟩ := (hV.grown hW (fun h => (ha (by omega)).2)) j (by omega)
    obtain ⟨_, va, _, _, vc, rfl, _⟩ := h5
    exact ⟨(ha (by omega)).1, va, vc, S, h0, h1, h2, h3, h4, by rw [← h7, strL_len]⟩)
  clear hV
  by_cases h60 : 60 < n
  · clear HV hn ha
    go_enter Tryz.func9, Tryz.ntmps9
    go_wp2
    go_ret
    exact ⟨true, rfl, grown_refl _ _, fun h => by cases h⟩
  · clear ha
    go_enter Tryz.func9, Tryz.ntmps9
    go_wp2
    go_loopw [10] (fun i wr => ∃ j : Nat, j ≤ n ∧ i = .int .i64 j ∧ w.grownBy wr none ∧ ∀ k, k < j → (xs.getD k De.none0).b.length ≤ 300 ∧ (xs.getD k De.none0).t.length ≤ 300) (fun i _ => n - (intOf i).toNat)
    case atStart => exact ⟨0, Nat.zero_le _, rfl, grown_refl _ _, fun k hk => absurd hk (Nat.not_lt_zero _)⟩
    case round =>
      obtain ⟨j, hj, rfl, hg, hall⟩ := hrel
      have HG := Lib.hid hg
      have HAl := Lib.hid hall
      by_cases hjn : j < n
      · obtain ⟨rfl, va, vc, S, c0, c1, c2, c3, c4, hS⟩ := HV.out wr hg j hjn
        have HS := Lib.hid hS
        have hsbl : sb < wr.heap.size := World.block_lt_of_cell? wr _ c0
        obtain ⟨bl, hbl⟩ : ∃ bl, bl = (xs.getD j De.none0).b.length := ⟨_, rfl⟩
        obtain ⟨tl, htl⟩ : ∃ tl, tl = S.size := ⟨_, rfl⟩
        have HBl := Lib.hid hbl
        have HTl := Lib.hid htl
        rw [← hbl] at c3
        have HGa : Hid (∀ o, w.grownBy (wr.alloc o) none) := Lib.hid (fun o => grown_alloc hg o)
        generalize (xs.getD j De.none0).kind = kd at c0
        generalize (xs.getD j De.none0).n = nn at c1
        generalize (xs.getD j De.none0).is = is at c2
        clear hg hall hS hbl
        by_cases hb : 300 < bl
        · clear htl
          go_wp2
          go_ret
          exact ⟨true, rfl, HGa.out _, fun h => by cases h⟩
        · by_cases ht : 300 < S.size
          · clear htl
            go_wp2
            go_ret
            exact ⟨true, rfl, HGa.out _, fun h => by cases h⟩
          · have HB := Lib.hid hb
            have HT := Lib.hid ht
            clear htl
            go_wp2
            go_roundw
            case rel => exact ⟨j + 1, by omega, by go_num, HGa.out _, fun k hk => by
              by_cases e : k = j
              · subst e
                have h1 := HB.out
                have h2 := HT.out
                have h3 := HBl.out
                have h4 := HS.out
                omega
              · exact HAl.out k (by omega)⟩
            case measure => simp [intOf]; omega
      · obtain rfl : j = n := by omega
        clear hg hall
        go_wp2
        go_ret
        exact ⟨false, rfl, HG.out, fun _ => ⟨by omega, HAl.out⟩⟩
end Go.Proofs.YtgahhbompnbcdaaGreatDoor
namespace Go.Proofs.YtgahhbompnbcdaaGreatDoor
open Go.RowKit
set_option linter.unusedVariables false
theorem BodiesOf.grown {A : Nat → Addr} {w w' : World} (h : BodiesOf A w) (hg : w.grownBy w' none) : BodiesOf A w' :=
  ⟨h.errs.grown hg, fun s m W h1 h2 h3 => h.texts s m W h1 h2 (grown_trans hg h3), fun m W h1 h2 => h.flags m W h1 (grown_trans hg h2), fun t W h1 h2 => h.moment t W h1 (grown_trans hg h2), fun s W h1 h2 => h.oid s W h1 (grown_trans hg h2)⟩
/-- Both writers at first. -/
theorem TwoW.new {A : Nat → Addr} {w : World} : TwoW A w w.heap.size (w.heap.size + 1) (fun _ => False) De.St.zero De.St.zero
    ((w.alloc (.cells #[.slice none 0 0, .slice none 0 0, .nilIface] 31)).alloc (.cells #[.slice none 0 0, .slice none 0 0, .int .i64 0] 36)) := by
  have h1 : PrW A w (fun k => k = w.heap.size) w.heap.size De.St.zero (w.alloc (.cells #[.slice none 0 0, .slice none 0 0, .nilIface] 31)) := PrW.new (grown_refl _ _)
  have h2 := RefW.new (W0 := w) h1.base
  rw [alloc_size] at h2
  refine ⟨_, _, h1.still (World.grownBy_alloc _ _ _), h2, fun k hk hk2 => ?_, fun k hk => hk.elim⟩
  have : k = w.heap.size := hk
  have : k = w.heap.size + 1 := hk2
  omega
/-- A value that a list holds, in any later world. -/
structure OneV (sb so : Nat) (x : De.Val) (j : Nat) (va : Option Addr) (bl : Nat) (vc : Nat) (S : ByteArray) (W : World) : Prop where
  c0 : W.cell? ⟨sb, so + j * 5, none⟩ = some (.int .i64 x.kind)
  c1 : W.cell? ⟨sb, so + j * 5 + 1, none⟩ = some (.int .i64 x.n)
  c2 : W.cell? ⟨sb, so + j * 5 + 2, none⟩ = some (.bool x.is)
  c3 : W.cell? ⟨sb, so + j * 5 + 3, none⟩ = some (.slice va bl vc)
  c4 : W.cell? ⟨sb, so + j * 5 + 4, none⟩ = some (.string S)
theorem oneV {w : World} {sb so j : Nat} {xs : List De.Val} (hV : ValsAt w sb so xs) (hj : j < xs.length) (h300 : (xs.getD j De.none0).t.length ≤ 300) (hsb : sb < w.heap.size) :
    ∃ va bl vc S, (∀ W, w.grownBy W none → OneV sb so (xs.getD j De.none0) j va bl vc S W ∧ ValV W (.agg #[.int .i64 (xs.getD j De.none0).kind, .int .i64 (xs.getD j De.none0).n, .bool (xs.getD j De.none0).is, .slice va bl vc, .string S]) (xs.getD j De.none0)) ∧ De.I64 (xs.getD j De.none0).n ∧ De.Byt (xs.getD j De.none0) := by
  obtain ⟨v, S, h0, h1, h2, h3, h4, h5, h6, h7, h8, h9⟩ := hV j hj
  have hlt := h5.lt
  have h5' := h5
  obtain ⟨_, va, _, _, vc, rfl, _⟩ := h5
  refine ⟨va, (xs.getD j De.none0).b.length, vc, S, ?_, h9, hlt, by rw [← h7]; exact strL_lt S⟩
  intro W hW
  have e : ∀ o, W.cell? ⟨sb, o, none⟩ = w.cell? ⟨sb, o, none⟩ := fun o => World.cell?_of_block (hW.block sb hsb (by simp))
  exact ⟨⟨by rw [e]; exact h0, by rw [e]; exact h1, by rw [e]; exact h2, by rw [e]; exact h3, by rw [e]; exact h4⟩, _, S, rfl, h5'.grown hW, h6, h7, by rw [← strL_len, h7]; omega⟩
end Go.Proofs.YtgahhbompnbcdaaGreatDoor
namespace Go.Proofs.YtgahhbompnbcdaaGreatDoor
open Go.RowKit
set_option linter.unusedVariables false
theorem fail_fail {s : De.St} {n m : Nat} (hn : n ≠ 0) : De.fail (De.fail s n) m = De.fail s n := by
  unfold De.fail
  by_cases h : s.e = 0
  · rw [if_pos h, if_neg hn]
  · rw [if_neg h, if_neg h]
theorem fail_zero {s : De.St} {n : Nat} (h : s.e = 0) : De.fail s n = { s with e := n } := by unfold De.fail; rw [if_pos h]
theorem fail_some {s : De.St} {n : Nat} (h : s.e ≠ 0) : De.fail s n = s := by unfold De.fail; rw [if_neg h]
theorem fail_ok {j n : Nat} {s : De.St} (hl : Lim j s) (hg : De.Good s) (he : s.e ≤ 28) (hn : n ≤ 28) : Lim j (De.fail s n) ∧ De.Good (De.fail s n) ∧ (De.fail s n).e ≤ 28 := by
  unfold De.fail
  split
  · exact ⟨hl.err n, De.good_err hg n, hn⟩
  · exact ⟨hl, hg, he⟩
/-- The law's number is one of the errors'. -/
theorem num_28 (z : Int) : ∃ n : Nat, 1 ≤ n ∧ n ≤ 28 ∧ wrap64 (1 + wrap64 ((IntKind.u64.wrap z).tmod 28)) = (n : Int) := by
  have h0 : 0 ≤ IntKind.u64.wrap z := by
    simp only [IntKind.wrap, IntKind.bits, IntKind.signed]
    simp
    omega
  generalize IntKind.u64.wrap z = y at h0
  rw [Int.tmod_eq_emod_of_nonneg h0]
  refine ⟨(1 + y % 28).toNat, by omega, by omega, ?_⟩
  unfold wrap64
  omega
theorem wr3_same {w : World} {b : Nat} {x y z : Value} {t : TypeId} (h : w.heap[b]? = some (.cells #[x, y, z] t (0, 0))) (v : Value) : (w.setCell ⟨b, 2, none⟩ v).heap[b]? = some (.cells #[x, y, v] t (0, 0)) := by
  have := setCell_heap (i := 2) h v
  simpa using this
theorem done1_any {A : Nat → Addr} {w2 : World} (hE : AllErrs w2 A) (s : De.St) (W : World) (hl : Lim 1000 s) (h : TwoW A w2 w2.heap.size (w2.heap.size + 1) (fun _ => False) s s W) : Calls Tryz.prog 12 #[.pointer (some ⟨w2.heap.size, 0, none⟩)] W fun e w' => PDnPost A W w' (De.done s) e := by
  obtain ⟨F1, F2, h1, _⟩ := h
  exact prDone_any h1 hE hl
theorem done2_any {A : Nat → Addr} {w2 : World} (s : De.St) (W : World) (hl : Lim 1000 s) (h : TwoW A w2 w2.heap.size (w2.heap.size + 1) (fun _ => False) s s W) : Calls Tryz.prog 13 #[.pointer (some ⟨w2.heap.size + 1, 0, none⟩)] W fun e w' => DnPost W w' (De.done s) e := by
  obtain ⟨F1, F2, _, h2, _⟩ := h
  exact refDone_any h2 hl (Nat.le_refl _)
theorem one_pos9 : 0 < 1 := Nat.zero_lt_one
theorem bytes_two (W : World) : Bytes (W.alloc (.cells #[.int .u8 48, .int .u8 0] 5)) (.slice (some ⟨W.heap.size, 0, none⟩) 2 2) [48, 0] := Bytes.lit (l := [48, 0]) (alloc_at W _) (by simp)
theorem iVal5 : (Tryz.prog.info? 38).map (·.size) = some 5 := by kernel_rfl
theorem hold_blk8 {w w' : World} {b : Nat} {o : Obj} (h : w.heap[b]? = some o) (hg : w.grownBy w' none) : w'.heap[b]? = some o := (hg.block b (blk_lt h) (by simp)).trans h
set_option maxRecDepth 100000 in
set_option maxHeartbeats 16000000 in
theorem derFails_any (A : Nat → Addr) (a : Option Addr) (sb so n c : Nat) (xs : List De.Val) (at_ num : Int) (w : World) (hn : xs.length = n) (ha : 0 < n → a = some ⟨sb, so, none⟩ ∧ sb < w.heap.size) (hV : ValsAt w sb so xs) (hc : n ≤ 9223372036854775807) (hcc : n ≤ c) (hA : BodiesOf A w) :
    Calls Tryz.prog 7 #[.slice a n c, .int .i64 at_, .int .i64 num] w fun e w' => e = .returned (.bool true) ∧ w.grownBy w' none := by
  have HAl := Lib.hid (alive8_any A w hA)
  have HLo : Hid (∀ W, w.grownBy W none → Calls Tryz.prog 9 #[.slice a n c] W fun e w' => LongPost W w' n xs e) := Lib.hid (fun W hW => long_any a sb so n c xs W hn (fun h => ⟨(ha h).1, Nat.lt_of_lt_of_le (ha h).2 hW.size⟩) (hV.grown hW (fun h => (ha (by omega)).2)) hc hcc)
  have HV := Lib.hid hV
  have HA := Lib.hid hA
  have HAd := Lib.hid ha
  have HN := Lib.hid hn
  have HNc := Lib.hid hcc
  clear hA hV ha hn hcc
  go_enter Tryz.func7, Tryz.ntmps7
  go_wp2_with (first
    | (go_at_call 8; refine HAl.out.mono ?_; rintro e w1 ⟨rfl, hg1⟩; have HG1 := Lib.hid hg1; clear hg1)
    | (go_at_call 9; refine (HLo.out _ HG1.out).mono ?_; rintro e w2 ⟨q, rfl, hg2, hq⟩; have HG2 := Lib.hid (grown_trans HG1.out hg2); have HQ := Lib.hid hq; clear hg2 hq))
  · go_ret
    exact ⟨rfl, HG2.out⟩
  ·
    obtain rfl : q = false := by cases q <;> simp_all
    have hq := HQ.out rfl
    have HW2 := Lib.hid (TwoW.new (A := A) (w := w2))
    have HA2 := Lib.hid (HA.out.grown HG2.out)
    obtain ⟨W2, hW2⟩ : ∃ W2, W2 = (w2.alloc (.cells #[.slice none 0 0, .slice none 0 0, .nilIface] 31)).alloc (.cells #[.slice none 0 0, .slice none 0 0, .int .i64 0] 36) := ⟨_, rfl⟩
    rw [← hW2] at HW2 ⊢
    have H300 : Hid (∀ j, j < n → (xs.getD j De.none0).b.length ≤ 300 ∧ (xs.getD j De.none0).t.length ≤ 300) := Lib.hid hq.2
    have h60 : n ≤ 60 := hq.1
    have HI5 := Lib.hid iVal5
    obtain ⟨M, hM1, hM2, hM⟩ := num_28 num
    rw [hM]
    have hd0 : decide (0 < n) = true := decide_eq_true (by assumption)
    simp only [hd0]
    clear hd0
    generalize wrap64 ((IntKind.u64.wrap at_).tmod ↑n) = K at *
    have HM0 : Hid (M ≠ 0) := Lib.hid (by omega)
    have HErr : Hid (∀ W, w2.grownBy W none → Calls Tryz.prog 42 #[.int .i64 (M : Int)] W fun e w' => e = .returned (errV A M) ∧ W.grownBy w' none) := Lib.hid (fun W hW => numErr_any A M hM1 hM2 W (HA2.out.errs.grown hW))
    have HBz : Hid (∀ W, w2.grownBy W none → W.cell? ⟨0, 0, none⟩ = some (errV A 28)) := Lib.hid (fun W hW => errs_at (HA2.out.errs.grown hW) 28 (by decide))
    have HM28 := Lib.hid hM2
    have HDG1 : Hid (∀ (s : De.St) W, Lim 1000 s → TwoW A w2 w2.heap.size (w2.heap.size + 1) (fun _ => False) s s W → Calls Tryz.prog 12 #[.pointer (some ⟨w2.heap.size, 0, none⟩)] W fun e w' => PDnPost A W w' (De.done s) e) := Lib.hid (done1_any HA2.out.errs)
    have HDG2 : Hid (∀ (s : De.St) W, Lim 1000 s → TwoW A w2 w2.heap.size (w2.heap.size + 1) (fun _ => False) s s W → Calls Tryz.prog 13 #[.pointer (some ⟨w2.heap.size + 1, 0, none⟩)] W fun e w' => DnPost W w' (De.done s) e) := Lib.hid done2_any
    clear hq HQ HLo HAl hW2 hM hM1 hM2
    go_loopw [42] (fun i wr => ∃ (j : Nat) (s : De.St), j ≤ n ∧ i = .int .i64 j ∧ TwoW A w2 w2.heap.size (w2.heap.size + 1) (fun _ => False) s s wr ∧ Lim j s ∧ De.Good s ∧ s.e ≤ 28) (fun i _ => n - (intOf i).toNat)
    case atStart => exact ⟨0, De.St.zero, Nat.zero_le _, rfl, HW2.out, Lim.zero, De.good_zero, by decide⟩
    case round =>
      obtain ⟨j, s, hj, rfl, hT, hl, hgd, hse⟩ := hrel
      have HT := Lib.hid hT
      have HGr : Hid (w.grownBy wr none) := Lib.hid (grown_trans HG2.out hT.base)
      by_cases hjn : j < n
      · have had := HAd.out (by omega)
        obtain ⟨rfl, hsbl⟩ := had
        obtain ⟨va, bl, vc, S, hov, hi64, hbyt⟩ := oneV (j := j) HV.out (by rw [HN.out]; exact hjn) (H300.out j hjn).2 hsbl
        have h300 := (H300.out j hjn).1
        obtain ⟨x, hx⟩ : ∃ x, x = xs.getD j De.none0 := ⟨_, rfl⟩
        rw [← hx] at hov hi64 hbyt h300
        have hov1 := (hov wr HGr.out).1
        obtain ⟨c0, c1, c2, c3, c4⟩ := hov1
        have hsw : sb < wr.heap.size := Nat.lt_of_lt_of_le hsbl HGr.out.size
        have HVv : Hid (∀ W, w.grownBy W none → ValV W (.agg #[.int .i64 x.kind, .int .i64 x.n, .bool x.is, .slice va bl vc, .string S]) x) := Lib.hid (fun W hW => (hov W hW).2)
        have hga : wr.grownBy (wr.alloc (.cells #[.int .i64 x.kind, .int .i64 x.n, .bool x.is, .slice va bl vc, .string S] 38)) none := World.grownBy_alloc _ _ _
        obtain ⟨vb, hvb⟩ : ∃ vb, vb = wr.heap.size := ⟨_, rfl⟩
        have TA := Lib.hid ((hT.keep hga).less (B' := fun k => k = vb) (fun k hk => ⟨by omega, by rw [alloc_size]; omega⟩))
        have HVA : Hid ((wr.alloc (.cells #[.int .i64 x.kind, .int .i64 x.n, .bool x.is, .slice va bl vc, .string S] 38)).heap[vb]? = some (.cells #[.int .i64 x.kind, .int .i64 x.n, .bool x.is, .slice va bl vc, .string S] 38 (0, 0))) := Lib.hid (by rw [hvb]; exact alloc_at wr _)
        have HStep : Hid (∀ s' : De.St, Lim j s' → De.Good s' → s'.e ≤ 28 → Lim (j + 1) (De.step s' x) ∧ De.Good (De.step s' x) ∧ (De.step s' x).e ≤ 28) := Lib.hid (fun s' a1 a2 a3 => ⟨a1.step, De.good_step a2 hbyt, De.step_e a3⟩)
        have HPutG : Hid (∀ s' : De.St, Lim j s' → De.Good s' → ∀ W, TwoW A w2 w2.heap.size (w2.heap.size + 1) (fun k => k = vb) s' s' W → Calls Tryz.prog 10 #[.pointer (some ⟨w2.heap.size, 0, none⟩), .agg #[.int .i64 x.kind, .int .i64 x.n, .bool x.is, .slice va bl vc, .string S]] W fun e w' => e = .returned (.tuple #[]) ∧ TwoW A w2 w2.heap.size (w2.heap.size + 1) (fun k => k = vb) (De.step s' x) s' w' ∧ w'.heap[vb]? = W.heap[vb]?) := Lib.hid (fun s' a1 a2 W hW =>
          (hW.prog (fun F hF => lput_any hF HA2.out (a1.mono (by omega)) (fun p hp => (a2.op p hp).1) _ x hi64 (HVv.out W (grown_trans HG2.out hW.base)) (by omega))).mono (fun e w' hp => ⟨hp.1, hp.2.1, hp.2.2 vb rfl⟩))
        have HDoG : Hid (∀ s' : De.St, Lim j s' → ∀ W, TwoW A w2 w2.heap.size (w2.heap.size + 1) (fun k => k = vb) (De.step s' x) s' W → Calls Tryz.prog 11 #[.pointer (some ⟨w2.heap.size + 1, 0, none⟩), .agg #[.int .i64 x.kind, .int .i64 x.n, .bool x.is, .slice va bl vc, .string S]] W fun e w' => e = .returned (.tuple #[]) ∧ TwoW A w2 w2.heap.size (w2.heap.size + 1) (fun _ => False) (De.step s' x) (De.step s' x) w') := Lib.hid (fun s' a1 W hW =>
          (hW.second (fun F hF => refDo_any hF a1 (by omega) _ x (HVv.out W (grown_trans HG2.out hW.base)) (by omega))).mono (fun e w' hp => ⟨hp.1, hp.2.1.less (fun k hk => hk.elim)⟩))
        subst hvb
        by_cases hjk : (j : Int) = K
        · have hjk' : ((j : Int) == K) = true := by rw [hjk]; simp
          obtain ⟨l1, g1, e1⟩ := fail_ok hl hgd hse HM28.out
          have HS' := Lib.hid (HStep.out _ l1 g1 e1)
          have HPut := Lib.hid (HPutG.out _ l1 g1)
          have HDo := Lib.hid (HDoG.out _ l1)
          have HF1 : Hid (∀ W, TwoW A w2 w2.heap.size (w2.heap.size + 1) (fun k => k = wr.heap.size) s s W → Calls Tryz.prog 41 #[.pointer (some ⟨w2.heap.size, 0, none⟩), .nilIface] W fun e w' => e = .returned (.tuple #[]) ∧ TwoW A w2 w2.heap.size (w2.heap.size + 1) (fun k => k = wr.heap.size) s s w' ∧ w'.heap[wr.heap.size]? = W.heap[wr.heap.size]?) := Lib.hid (fun W hW => (hW.prog (fun F hF => prFailNil_any hF)).mono (fun e w' hp => ⟨hp.1, hp.2.1, hp.2.2 wr.heap.size rfl⟩))
          have HF2 : Hid (∀ W, TwoW A w2 w2.heap.size (w2.heap.size + 1) (fun k => k = wr.heap.size) s s W → Calls Tryz.prog 41 #[.pointer (some ⟨w2.heap.size, 0, none⟩), errV A M] W fun e w' => e = .returned (.tuple #[]) ∧ TwoW A w2 w2.heap.size (w2.heap.size + 1) (fun k => k = wr.heap.size) (De.fail s M) s w' ∧ w'.heap[wr.heap.size]? = W.heap[wr.heap.size]?) := Lib.hid (fun W hW => (hW.prog (fun F hF => prFail_any hF M HM0.out)).mono (fun e w' hp => ⟨hp.1, hp.2.1, hp.2.2 wr.heap.size rfl⟩))
          have HF3 : Hid (∀ W, TwoW A w2 w2.heap.size (w2.heap.size + 1) (fun k => k = wr.heap.size) (De.fail s M) (De.fail s M) W → Calls Tryz.prog 41 #[.pointer (some ⟨w2.heap.size, 0, none⟩), errV A 28] W fun e w' => e = .returned (.tuple #[]) ∧ TwoW A w2 w2.heap.size (w2.heap.size + 1) (fun k => k = wr.heap.size) (De.fail s M) (De.fail s M) w' ∧ w'.heap[wr.heap.size]? = W.heap[wr.heap.size]?) := Lib.hid (fun W hW => (hW.prog (s' := De.fail s M) (fun F hF => by have := prFail_any hF 28 (by decide); rwa [fail_fail HM0.out] at this)).mono (fun e w' hp => ⟨hp.1, hp.2.1, hp.2.2 wr.heap.size rfl⟩))
          have HSe := Lib.hid (fun (h : s.e = 0) => fail_zero (s := s) (n := M) h)
          have HSn := Lib.hid (fun (h : s.e ≠ 0) => fail_some (s := s) (n := M) h)
          obtain ⟨S', hS'⟩ : ∃ S', S' = De.step (De.fail s M) x := ⟨_, rfl⟩
          rw [← hS'] at HS' HPut HDo
          have hjK := hjk
          clear hT hl hgd hov hi64 hbyt h300 hx hS' l1 g1 e1 HPutG HDoG HStep hse hga hjk
          by_cases hs0 : s.e = 0
          · have HFe := Lib.hid (HSe.out hs0)
            have hs0' : (((s.e : Nat) : Int)) = 0 := by omega
            have HS0 := Lib.hid hs0
            clear hs0 hjK
            go_wp2_with (first
              | (go_at_call 41; with_reducible refine (HF1.out _ TA.out).mono ?_; rintro e w5 ⟨rfl, hT5, hb5⟩; have T5 := Lib.hid hT5; have HV5 := Lib.hid (hb5.trans HVA.out); clear hT5 hb5)
              | (go_at_call 42; refine (HErr.out _ T5.out.base).mono ?_; rintro e w6 ⟨rfl, hg6⟩; have T6 := Lib.hid (T5.out.still hg6); have HV6 := Lib.hid (hold_blk8 HV5.out hg6); clear hg6)
              | (go_at_call 41; with_reducible refine (HF2.out _ T6.out).mono ?_; rintro e w7 ⟨rfl, hT7, hb7⟩; have T7 := Lib.hid hT7; have HV7 := Lib.hid (hb7.trans HV6.out); obtain ⟨q2, f2⟩ := hT7.docCell; have hd := hT7.docErr M HM0.out; have TS := Lib.hid (show TwoW A w2 w2.heap.size (w2.heap.size + 1) (fun k => k = wr.heap.size) (De.fail s M) (De.fail s M) (w7.setCell ⟨w2.heap.size + 1, 2, none⟩ (.int .i64 M)) from by have h1 := hd.1; rwa [← HFe.out] at h1); have HVS := Lib.hid ((hd.2 wr.heap.size rfl).trans HV7.out); have z28 := HBz.out _ TS.out.base; clear hT7 hb7 hd)
              | (go_at_call 41; with_reducible refine (HF3.out _ TS.out).mono ?_; rintro e w9 ⟨rfl, hT9, hb9⟩; have TP := Lib.hid hT9; have HVP := Lib.hid (hb9.trans HVS.out); clear hT9 hb9)
              | (refine wpList_load_row (by rfl) 38 (.tmp 11) (by rfl) wr.heap.size (by rfl) 38 #[.int .i64 x.kind, .int .i64 x.n, .bool x.is, .slice va bl vc, .string S] (0, 0) _ HVP.out Tryz.underlying38 rfl HI5.out ?_)
              | (go_at_call 10; refine (HPut.out _ TP.out).mono ?_; rintro e w3 ⟨rfl, hT3, hb3⟩; have T3 := Lib.hid hT3; have HVD := Lib.hid (hb3.trans HVP.out); clear hT3 hb3)
              | (refine wpList_load_row (by rfl) 38 (.tmp 11) (by rfl) wr.heap.size (by rfl) 38 #[.int .i64 x.kind, .int .i64 x.n, .bool x.is, .slice va bl vc, .string S] (0, 0) _ HVD.out Tryz.underlying38 rfl HI5.out ?_)
              | (go_at_call 11; refine (HDo.out _ T3.out).mono ?_; rintro e w4 ⟨rfl, hT4⟩; have T4 := Lib.hid hT4; clear hT4))
            go_roundw
            case rel => exact ⟨j + 1, S', by omega, by go_num, T4.out, HS'.out⟩
            case measure => simp [intOf] <;> omega
          · have HFe := Lib.hid (HSn.out hs0)
            have hs0' : ¬ (((s.e : Nat) : Int)) = 0 := by omega
            clear hs0 hjK
            go_wp2_with (first
              | (go_at_call 41; with_reducible refine (HF1.out _ TA.out).mono ?_; rintro e w5 ⟨rfl, hT5, hb5⟩; have T5 := Lib.hid hT5; have HV5 := Lib.hid (hb5.trans HVA.out); clear hT5 hb5)
              | (go_at_call 42; refine (HErr.out _ T5.out.base).mono ?_; rintro e w6 ⟨rfl, hg6⟩; have T6 := Lib.hid (T5.out.still hg6); have HV6 := Lib.hid (hold_blk8 HV5.out hg6); clear hg6)
              | (go_at_call 41; with_reducible refine (HF2.out _ T6.out).mono ?_; rintro e w7 ⟨rfl, hT7, hb7⟩; have T7 := Lib.hid hT7; have HV7 := Lib.hid (hb7.trans HV6.out); obtain ⟨q2, f2⟩ := hT7.docCell; have TS := Lib.hid (show TwoW A w2 w2.heap.size (w2.heap.size + 1) (fun k => k = wr.heap.size) (De.fail s M) (De.fail s M) w7 from by have h1 := hT7; rwa [HFe.out] at h1 ⊢); have HVS := HV7; have z28 := HBz.out _ TS.out.base; clear hT7 hb7)
              | (go_at_call 41; with_reducible refine (HF3.out _ TS.out).mono ?_; rintro e w9 ⟨rfl, hT9, hb9⟩; have TP := Lib.hid hT9; have HVP := Lib.hid (hb9.trans HVS.out); clear hT9 hb9)
              | (refine wpList_load_row (by rfl) 38 (.tmp 11) (by rfl) wr.heap.size (by rfl) 38 #[.int .i64 x.kind, .int .i64 x.n, .bool x.is, .slice va bl vc, .string S] (0, 0) _ HVP.out Tryz.underlying38 rfl HI5.out ?_)
              | (go_at_call 10; refine (HPut.out _ TP.out).mono ?_; rintro e w3 ⟨rfl, hT3, hb3⟩; have T3 := Lib.hid hT3; have HVD := Lib.hid (hb3.trans HVP.out); clear hT3 hb3)
              | (refine wpList_load_row (by rfl) 38 (.tmp 11) (by rfl) wr.heap.size (by rfl) 38 #[.int .i64 x.kind, .int .i64 x.n, .bool x.is, .slice va bl vc, .string S] (0, 0) _ HVD.out Tryz.underlying38 rfl HI5.out ?_)
              | (go_at_call 11; refine (HDo.out _ T3.out).mono ?_; rintro e w4 ⟨rfl, hT4⟩; have T4 := Lib.hid hT4; clear hT4))
            go_roundw
            case rel => exact ⟨j + 1, S', by omega, by go_num, T4.out, HS'.out⟩
            case measure => simp [intOf] <;> omega
        · have hjk' : ((j : Int) == K) = false := by rw [beq_eq_false_iff_ne]; exact hjk
          have HS' := Lib.hid (HStep.out _ hl hgd hse)
          have HPut := Lib.hid (HPutG.out _ hl hgd)
          have HDo := Lib.hid (HDoG.out _ hl)
          obtain ⟨S', hS'⟩ : ∃ S', S' = De.step s x := ⟨_, rfl⟩
          rw [← hS'] at HS' HPut HDo
          have TP := TA
          have HVP := HVA
          clear hT hl hgd hov hi64 hbyt h300 hx hS' HPutG HDoG HStep hse hga hjk
          go_wp2_with (first
              | (refine wpList_load_row (by rfl) 38 (.tmp 11) (by rfl) wr.heap.size (by rfl) 38 #[.int .i64 x.kind, .int .i64 x.n, .bool x.is, .slice va bl vc, .string S] (0, 0) _ HVP.out Tryz.underlying38 rfl HI5.out ?_)
              | (go_at_call 10; refine (HPut.out _ TP.out).mono ?_; rintro e w3 ⟨rfl, hT3, hb3⟩; have T3 := Lib.hid hT3; have HVD := Lib.hid (hb3.trans HVP.out); clear hT3 hb3)
              | (refine wpList_load_row (by rfl) 38 (.tmp 11) (by rfl) wr.heap.size (by rfl) 38 #[.int .i64 x.kind, .int .i64 x.n, .bool x.is, .slice va bl vc, .string S] (0, 0) _ HVD.out Tryz.underlying38 rfl HI5.out ?_)
              | (go_at_call 11; refine (HDo.out _ T3.out).mono ?_; rintro e w4 ⟨rfl, hT4⟩; have T4 := Lib.hid hT4; clear hT4))
          go_roundw
          case rel => exact ⟨j + 1, S', by omega, by go_num, T4.out, HS'.out⟩
          case measure => simp [intOf] <;> omega
      · obtain rfl : j = n := by omega
        have HD1 : Hid (∀ W, TwoW A w2 w2.heap.size (w2.heap.size + 1) (fun _ => False) s s W → Calls Tryz.prog 12 #[.pointer (some ⟨w2.heap.size, 0, none⟩)] W fun e w' => PDnPost A W w' (De.done s) e) := Lib.hid (fun W => HDG1.out s W (hl.mono (by omega)))
        have HD2 : Hid (∀ W, TwoW A w2 w2.heap.size (w2.heap.size + 1) (fun _ => False) s s W → Calls Tryz.prog 13 #[.pointer (some ⟨w2.heap.size + 1, 0, none⟩)] W fun e w' => DnPost W w' (De.done s) e) := Lib.hid (fun W => HDG2.out s W (hl.mono (by omega)))
        have HNuM := Lib.hid (fun W (hW : w2.grownBy W none) => num_of A M HM28.out W (HA2.out.errs.grown hW))
        unfold errOf at HNuM
        rw [if_neg HM0.out] at HNuM
        have HRd : Hid (∀ W, w2.grownBy W none → Calls Tryz.prog 19 #[.slice (some ⟨W.heap.size, 0, none⟩) 2 2] (W.alloc (.cells #[.int .u8 48, .int .u8 0] 5)) fun e w' => Rd30 (W.alloc (.cells #[.int .u8 48, .int .u8 0] 5)) w' e) := Lib.hid (fun W hW => rdRead30 A _ 2 _ (bytes_two W) (Whole0.some _ _ _) (HA2.out.errs.grown (grown_alloc hW _)))
        have hse2 := hse
        clear hT hl hgd hse
        cases hd : De.done s with
        | error k =>
          rw [hd] at HD1 HD2
          have hk28 := De.done_e hse2 hd
          have HNu := Lib.hid (fun W (hW : w2.grownBy W none) => num_of A k hk28.2 W (HA2.out.errs.grown hW))
          unfold errOf at HNu
          rw [if_neg (by omega)] at HNu
          clear hd hk28 hse2
          go_wp2_with (first
            | (go_at_call 12; refine (HD1.out _ HT.out).mono ?_; rintro e w5 ⟨hg5, rfl⟩; have T5 := Lib.hid (HT.out.still hg5); clear hg5)
            | (go_at_call 13; refine (HD2.out _ T5.out).mono ?_; rintro e w6 ⟨hg6, rfl⟩; have T6 := Lib.hid (T5.out.still hg6); clear hg6)
            | (go_at_call 14; with_reducible refine (HNu.out _ T6.out.base).mono ?_; rintro e w7 ⟨rfl, hg7⟩; have T7 := Lib.hid (T6.out.still hg7); have cv := conv_bytes (P := Tryz.prog) (bytes_nil0 w7) 27 5 9 Tryz.underlying27 Tryz.underlying5 Tryz.underlying9; clear hg7)
            | (go_at_call 19; refine (HRd.out _ T7.out.base).mono ?_; rintro e w8 ⟨rb, g8, c8, rfl, hg8, hb8, hc8, hrb8⟩; have H2G8 := Lib.hid (grown_trans (grown_alloc T7.out.base _) hg8); have HB8 := Lib.hid hb8; have HC8 := Lib.hid hc8; have HRb := Lib.hid (show w2.heap.size ≤ rb from Nat.le_trans (grown_alloc T7.out.base _).size hrb8); clear hg8 hb8 hc8 hrb8)
            | (go_at_call 21; with_reducible refine (rdMore0 one_pos9 HB8.out).mono ?_; rintro e wx ⟨rfl, rfl⟩)
            | (go_at_call 23; with_reducible refine (rdPeek0 one_pos9 HB8.out HC8.out).mono ?_; rintro e wx ⟨rfl, rfl⟩)
            | (go_at_call 43; with_reducible refine (rdFail0n HB8.out).mono ?_; rintro e w10 ⟨rfl, hw10⟩; have hb10 := wr3_same HB8.out (Value.nilIface); rw [← hw10] at hb10; have h210 := grown_set H2G8.out (p := ⟨rb, 2, none⟩) (.inl HRb.out) (Value.nilIface); rw [← hw10] at h210; have HB10 := Lib.hid hb10; have H2G10 := Lib.hid h210; clear hw10 hb10 h210)
            | (go_at_call 25; with_reducible refine (rdErr0 HB10.out).mono ?_; rintro e wx ⟨rfl, rfl⟩)
            | (go_at_call 42; refine (HErr.out _ H2G10.out).mono ?_; rintro e w11 ⟨rfl, hg11⟩; have HB11 := Lib.hid (hold_blk8 HB10.out hg11); have H2G11 := Lib.hid (grown_trans H2G10.out hg11); clear hg11)
            | (go_at_call 43; with_reducible refine (rdFail0e HB11.out A M).mono ?_; rintro e w12 ⟨rfl, hw12⟩; have hb12 := wr3_same HB11.out (errV A M); rw [← hw12] at hb12; have h212 := grown_set H2G11.out (p := ⟨rb, 2, none⟩) (.inl HRb.out) (errV A M); rw [← hw12] at h212; have z29 := HBz.out _ h212; have HB12 := Lib.hid hb12; have H2G12 := Lib.hid h212; clear hw12 hb12 h212)
            | (go_at_call 43; with_reducible refine (rdFail1 HB12.out _).mono ?_; rintro e wx ⟨rfl, rfl⟩)
            | (go_at_call 25; with_reducible refine (rdErr1 HB12.out).mono ?_; rintro e wx ⟨rfl, rfl⟩)
            | (go_at_call 14; with_reducible refine (HNuM.out _ H2G12.out).mono ?_; rintro e w13 ⟨rfl, hg13⟩; have HB13 := Lib.hid (hold_blk8 HB12.out hg13); have H2G13 := Lib.hid (grown_trans H2G12.out hg13); clear hg13)
            | (go_at_call 26; with_reducible refine (rdEnd1 HB13.out).mono ?_; rintro e wx ⟨rfl, rfl⟩)
            | (go_at_call 14; with_reducible refine (HNuM.out _ H2G13.out).mono ?_; rintro e w14 ⟨rfl, hg14⟩; have HB14 := Lib.hid (hold_blk8 HB13.out hg14); have H2G14 := Lib.hid (grown_trans H2G13.out hg14); clear hg14)
            | (go_at_call 21; with_reducible refine (rdMore1 HB14.out).mono ?_; rintro e wx ⟨rfl, rfl⟩)
            | (go_at_call 23; with_reducible refine (rdPeek1 HB14.out).mono ?_; rintro e wx ⟨rfl, rfl⟩)
            | (go_at_call 33; with_reducible refine (rdEnter1 HB14.out 48).mono ?_; rintro e w15 ⟨rfl, hg15⟩; have HB15 := Lib.hid (hold_blk8 HB14.out hg15); have H2G15 := Lib.hid (grown_trans H2G14.out hg15); clear hg15)
            | (go_at_call 44; with_reducible refine (rdInt1 HB15.out 0 9).mono ?_; rintro e w16 ⟨rfl, hg16⟩; have H2G16 := Lib.hid (grown_trans H2G15.out hg16); clear hg16))
          go_ret
          exact ⟨retB7 (by simp), grown_trans HG2.out H2G16.out⟩
        | ok l =>
          rw [hd] at HD1 HD2
          have HNu := Lib.hid (fun W (hW : w2.grownBy W none) => num_of A 0 (by decide) W (HA2.out.errs.grown hW))
          unfold errOf at HNu
          rw [if_pos rfl] at HNu
          have hbq : ((strOf l).toList == (strOf l).toList) = true := beq_self_eq_true _
          clear hd hse2
          go_wp2_with (first
            | (go_at_call 12; refine (HD1.out _ HT.out).mono ?_; rintro e w5 ⟨hg5, a5, c5, rfl, hB5, _⟩; have T5 := Lib.hid (HT.out.still hg5); have B5 := Lib.hid hB5; clear hg5 hB5)
            | (go_at_call 13; refine (HD2.out _ T5.out).mono ?_; rintro e w6 ⟨hg6, u6, rfl, hf6⟩; have T6 := Lib.hid (T5.out.still hg6); have B6 := Lib.hid (B5.out.grown hg6); have F6 := Lib.hid (Bytes.own hf6.own B5.out.lt); clear hg6 hf6)
            | (go_at_call 14; with_reducible refine (HNu.out _ T6.out.base).mono ?_; rintro e w7 ⟨rfl, hg7⟩; have T7 := Lib.hid (T6.out.still hg7); have cv1 := conv_bytes (P := Tryz.prog) (B6.out.grown hg7) 27 5 9 Tryz.underlying27 Tryz.underlying5 Tryz.underlying9; have cv2 := conv_bytes (P := Tryz.prog) (F6.out.grown hg7) 27 5 9 Tryz.underlying27 Tryz.underlying5 Tryz.underlying9; clear hg7)
            | (go_at_call 19; refine (HRd.out _ T7.out.base).mono ?_; rintro e w8 ⟨rb, g8, c8, rfl, hg8, hb8, hc8, hrb8⟩; have H2G8 := Lib.hid (grown_trans (grown_alloc T7.out.base _) hg8); have HB8 := Lib.hid hb8; have HC8 := Lib.hid hc8; have HRb := Lib.hid (show w2.heap.size ≤ rb from Nat.le_trans (grown_alloc T7.out.base _).size hrb8); clear hg8 hb8 hc8 hrb8)
            | (go_at_call 21; with_reducible refine (rdMore0 one_pos9 HB8.out).mono ?_; rintro e wx ⟨rfl, rfl⟩)
            | (go_at_call 23; with_reducible refine (rdPeek0 one_pos9 HB8.out HC8.out).mono ?_; rintro e wx ⟨rfl, rfl⟩)
            | (go_at_call 43; with_reducible refine (rdFail0n HB8.out).mono ?_; rintro e w10 ⟨rfl, hw10⟩; have hb10 := wr3_same HB8.out (Value.nilIface); rw [← hw10] at hb10; have h210 := grown_set H2G8.out (p := ⟨rb, 2, none⟩) (.inl HRb.out) (Value.nilIface); rw [← hw10] at h210; have HB10 := Lib.hid hb10; have H2G10 := Lib.hid h210; clear hw10 hb10 h210)
            | (go_at_call 25; with_reducible refine (rdErr0 HB10.out).mono ?_; rintro e wx ⟨rfl, rfl⟩)
            | (go_at_call 42; refine (HErr.out _ H2G10.out).mono ?_; rintro e w11 ⟨rfl, hg11⟩; have HB11 := Lib.hid (hold_blk8 HB10.out hg11); have H2G11 := Lib.hid (grown_trans H2G10.out hg11); clear hg11)
            | (go_at_call 43; with_reducible refine (rdFail0e HB11.out A M).mono ?_; rintro e w12 ⟨rfl, hw12⟩; have hb12 := wr3_same HB11.out (errV A M); rw [← hw12] at hb12; have h212 := grown_set H2G11.out (p := ⟨rb, 2, none⟩) (.inl HRb.out) (errV A M); rw [← hw12] at h212; have z29 := HBz.out _ h212; have HB12 := Lib.hid hb12; have H2G12 := Lib.hid h212; clear hw12 hb12 h212)
            | (go_at_call 43; with_reducible refine (rdFail1 HB12.out _).mono ?_; rintro e wx ⟨rfl, rfl⟩)
            | (go_at_call 25; with_reducible refine (rdErr1 HB12.out).mono ?_; rintro e wx ⟨rfl, rfl⟩)
            | (go_at_call 14; with_reducible refine (HNuM.out _ H2G12.out).mono ?_; rintro e w13 ⟨rfl, hg13⟩; have HB13 := Lib.hid (hold_blk8 HB12.out hg13); have H2G13 := Lib.hid (grown_trans H2G12.out hg13); clear hg13)
            | (go_at_call 26; with_reducible refine (rdEnd1 HB13.out).mono ?_; rintro e wx ⟨rfl, rfl⟩)
            | (go_at_call 14; with_reducible refine (HNuM.out _ H2G13.out).mono ?_; rintro e w14 ⟨rfl, hg14⟩; have HB14 := Lib.hid (hold_blk8 HB13.out hg14); have H2G14 := Lib.hid (grown_trans H2G13.out hg14); clear hg14)
            | (go_at_call 21; with_reducible refine (rdMore1 HB14.out).mono ?_; rintro e wx ⟨rfl, rfl⟩)
            | (go_at_call 23; with_reducible refine (rdPeek1 HB14.out).mono ?_; rintro e wx ⟨rfl, rfl⟩)
            | (go_at_call 33; with_reducible refine (rdEnter1 HB14.out 48).mono ?_; rintro e w15 ⟨rfl, hg15⟩; have HB15 := Lib.hid (hold_blk8 HB14.out hg15); have H2G15 := Lib.hid (grown_trans H2G14.out hg15); clear hg15)
            | (go_at_call 44; with_reducible refine (rdInt1 HB15.out 0 9).mono ?_; rintro e w16 ⟨rfl, hg16⟩; have H2G16 := Lib.hid (grown_trans H2G15.out hg16); clear hg16))
          go_ret
          exact ⟨retB7 (by simp), grown_trans HG2.out H2G16.out⟩
  ·
    obtain rfl : q = false := by cases q <;> simp_all
    have hq := HQ.out rfl
    have HW2 := Lib.hid (TwoW.new (A := A) (w := w2))
    have HA2 := Lib.hid (HA.out.grown HG2.out)
    obtain ⟨W2, hW2⟩ : ∃ W2, W2 = (w2.alloc (.cells #[.slice none 0 0, .slice none 0 0, .nilIface] 31)).alloc (.cells #[.slice none 0 0, .slice none 0 0, .int .i64 0] 36) := ⟨_, rfl⟩
    rw [← hW2] at HW2 ⊢
    have H300 : Hid (∀ j, j < n → (xs.getD j De.none0).b.length ≤ 300 ∧ (xs.getD j De.none0).t.length ≤ 300) := Lib.hid hq.2
    have h60 : n ≤ 60 := hq.1
    have HI5 := Lib.hid iVal5
    obtain ⟨M, hM1, hM2, hM⟩ := num_28 num
    rw [hM]
    have hn0 : ¬ 0 < n := by assumption
    have hd0 : decide (0 < n) = false := decide_eq_false hn0
    simp only [hd0]
    clear hd0
    have HM0 : Hid (M ≠ 0) := Lib.hid (by omega)
    have HErr : Hid (∀ W, w2.grownBy W none → Calls Tryz.prog 42 #[.int .i64 (M : Int)] W fun e w' => e = .returned (errV A M) ∧ W.grownBy w' none) := Lib.hid (fun W hW => numErr_any A M hM1 hM2 W (HA2.out.errs.grown hW))
    have HBz : Hid (∀ W, w2.grownBy W none → W.cell? ⟨0, 0, none⟩ = some (errV A 28)) := Lib.hid (fun W hW => errs_at (HA2.out.errs.grown hW) 28 (by decide))
    have HM28 := Lib.hid hM2
    have HDG1 : Hid (∀ (s : De.St) W, Lim 1000 s → TwoW A w2 w2.heap.size (w2.heap.size + 1) (fun _ => False) s s W → Calls Tryz.prog 12 #[.pointer (some ⟨w2.heap.size, 0, none⟩)] W fun e w' => PDnPost A W w' (De.done s) e) := Lib.hid (done1_any HA2.out.errs)
    have HDG2 : Hid (∀ (s : De.St) W, Lim 1000 s → TwoW A w2 w2.heap.size (w2.heap.size + 1) (fun _ => False) s s W → Calls Tryz.prog 13 #[.pointer (some ⟨w2.heap.size + 1, 0, none⟩)] W fun e w' => DnPost W w' (De.done s) e) := Lib.hid done2_any
    clear hq HQ HLo HAl hW2 hM hM1 hM2
    go_loopw [42] (fun i wr => ∃ (j : Nat) (s : De.St), j ≤ n ∧ i = .int .i64 j ∧ TwoW A w2 w2.heap.size (w2.heap.size + 1) (fun _ => False) s s wr ∧ Lim j s ∧ De.Good s ∧ s.e ≤ 28) (fun i _ => n - (intOf i).toNat)
    case atStart => exact ⟨0, De.St.zero, Nat.zero_le _, rfl, HW2.out, Lim.zero, De.good_zero, by decide⟩
    case round =>
      obtain ⟨j, s, hj, rfl, hT, hl, hgd, hse⟩ := hrel
      have HT := Lib.hid hT
      have HGr : Hid (w.grownBy wr none) := Lib.hid (grown_trans HG2.out hT.base)
      by_cases hjn : j < n
      · exact absurd hjn (by omega)
      · obtain rfl : j = n := by omega
        have HD1 : Hid (∀ W, TwoW A w2 w2.heap.size (w2.heap.size + 1) (fun _ => False) s s W → Calls Tryz.prog 12 #[.pointer (some ⟨w2.heap.size, 0, none⟩)] W fun e w' => PDnPost A W w' (De.done s) e) := Lib.hid (fun W => HDG1.out s W (hl.mono (by omega)))
        have HD2 : Hid (∀ W, TwoW A w2 w2.heap.size (w2.heap.size + 1) (fun _ => False) s s W → Calls Tryz.prog 13 #[.pointer (some ⟨w2.heap.size + 1, 0, none⟩)] W fun e w' => DnPost W w' (De.done s) e) := Lib.hid (fun W => HDG2.out s W (hl.mono (by omega)))
        have HNuM := Lib.hid (fun W (hW : w2.grownBy W none) => num_of A M HM28.out W (HA2.out.errs.grown hW))
        unfold errOf at HNuM
        rw [if_neg HM0.out] at HNuM
        have HRd : Hid (∀ W, w2.grownBy W none → Calls Tryz.prog 19 #[.slice (some ⟨W.heap.size, 0, none⟩) 2 2] (W.alloc (.cells #[.int .u8 48, .int .u8 0] 5)) fun e w' => Rd30 (W.alloc (.cells #[.int .u8 48, .int .u8 0] 5)) w' e) := Lib.hid (fun W hW => rdRead30 A _ 2 _ (bytes_two W) (Whole0.some _ _ _) (HA2.out.errs.grown (grown_alloc hW _)))
        have hse2 := hse
        clear hT hl hgd hse
        cases hd : De.done s with
        | error k =>
          rw [hd] at HD1 HD2
          have hk28 := De.done_e hse2 hd
          have HNu := Lib.hid (fun W (hW : w2.grownBy W none) => num_of A k hk28.2 W (HA2.out.errs.grown hW))
          unfold errOf at HNu
          rw [if_neg (by omega)] at HNu
          clear hd hk28 hse2
          go_wp2_with (first
            | (go_at_call 12; refine (HD1.out _ HT.out).mono ?_; rintro e w5 ⟨hg5, rfl⟩; have T5 := Lib.hid (HT.out.still hg5); clear hg5)
            | (go_at_call 13; refine (HD2.out _ T5.out).mono ?_; rintro e w6 ⟨hg6, rfl⟩; have T6 := Lib.hid (T5.out.still hg6); clear hg6)
            | (go_at_call 14; with_reducible refine (HNu.out _ T6.out.base).mono ?_; rintro e w7 ⟨rfl, hg7⟩; have T7 := Lib.hid (T6.out.still hg7); have cv := conv_bytes (P := Tryz.prog) (bytes_nil0 w7) 27 5 9 Tryz.underlying27 Tryz.underlying5 Tryz.underlying9; clear hg7)
            | (go_at_call 19; refine (HRd.out _ T7.out.base).mono ?_; rintro e w8 ⟨rb, g8, c8, rfl, hg8, hb8, hc8, hrb8⟩; have H2G8 := Lib.hid (grown_trans (grown_alloc T7.out.base _) hg8); have HB8 := Lib.hid hb8; have HC8 := Lib.hid hc8; have HRb := Lib.hid (show w2.heap.size ≤ rb from Nat.le_trans (grown_alloc T7.out.base _).size hrb8); clear hg8 hb8 hc8 hrb8)
            | (go_at_call 21; with_reducible refine (rdMore0 one_pos9 HB8.out).mono ?_; rintro e wx ⟨rfl, rfl⟩)
            | (go_at_call 23; with_reducible refine (rdPeek0 one_pos9 HB8.out HC8.out).mono ?_; rintro e wx ⟨rfl, rfl⟩)
            | (go_at_call 43; with_reducible refine (rdFail0n HB8.out).mono ?_; rintro e w10 ⟨rfl, hw10⟩; have hb10 := wr3_same HB8.out (Value.nilIface); rw [← hw10] at hb10; have h210 := grown_set H2G8.out (p := ⟨rb, 2, none⟩) (.inl HRb.out) (Value.nilIface); rw [← hw10] at h210; have HB10 := Lib.hid hb10; have H2G10 := Lib.hid h210; clear hw10 hb10 h210)
            | (go_at_call 25; with_reducible refine (rdErr0 HB10.out).mono ?_; rintro e wx ⟨rfl, rfl⟩)
            | (go_at_call 42; refine (HErr.out _ H2G10.out).mono ?_; rintro e w11 ⟨rfl, hg11⟩; have HB11 := Lib.hid (hold_blk8 HB10.out hg11); have H2G11 := Lib.hid (grown_trans H2G10.out hg11); clear hg11)
            | (go_at_call 43; with_reducible refine (rdFail0e HB11.out A M).mono ?_; rintro e w12 ⟨rfl, hw12⟩; have hb12 := wr3_same HB11.out (errV A M); rw [← hw12] at hb12; have h212 := grown_set H2G11.out (p := ⟨rb, 2, none⟩) (.inl HRb.out) (errV A M); rw [← hw12] at h212; have z29 := HBz.out _ h212; have HB12 := Lib.hid hb12; have H2G12 := Lib.hid h212; clear hw12 hb12 h212)
            | (go_at_call 43; with_reducible refine (rdFail1 HB12.out _).mono ?_; rintro e wx ⟨rfl, rfl⟩)
            | (go_at_call 25; with_reducible refine (rdErr1 HB12.out).mono ?_; rintro e wx ⟨rfl, rfl⟩)
            | (go_at_call 14; with_reducible refine (HNuM.out _ H2G12.out).mono ?_; rintro e w13 ⟨rfl, hg13⟩; have HB13 := Lib.hid (hold_blk8 HB12.out hg13); have H2G13 := Lib.hid (grown_trans H2G12.out hg13); clear hg13)
            | (go_at_call 26; with_reducible refine (rdEnd1 HB13.out).mono ?_; rintro e wx ⟨rfl, rfl⟩)
            | (go_at_call 14; with_reducible refine (HNuM.out _ H2G13.out).mono ?_; rintro e w14 ⟨rfl, hg14⟩; have HB14 := Lib.hid (hold_blk8 HB13.out hg14); have H2G14 := Lib.hid (grown_trans H2G13.out hg14); clear hg14)
            | (go_at_call 21; with_reducible refine (rdMore1 HB14.out).mono ?_; rintro e wx ⟨rfl, rfl⟩)
            | (go_at_call 23; with_reducible refine (rdPeek1 HB14.out).mono ?_; rintro e wx ⟨rfl, rfl⟩)
            | (go_at_call 33; with_reducible refine (rdEnter1 HB14.out 48).mono ?_; rintro e w15 ⟨rfl, hg15⟩; have HB15 := Lib.hid (hold_blk8 HB14.out hg15); have H2G15 := Lib.hid (grown_trans H2G14.out hg15); clear hg15)
            | (go_at_call 44; with_reducible refine (rdInt1 HB15.out 0 9).mono ?_; rintro e w16 ⟨rfl, hg16⟩; have H2G16 := Lib.hid (grown_trans H2G15.out hg16); clear hg16))
          go_ret
          exact ⟨retB7 (by simp), grown_trans HG2.out H2G16.out⟩
        | ok l =>
          rw [hd] at HD1 HD2
          have HNu := Lib.hid (fun W (hW : w2.grownBy W none) => num_of A 0 (by decide) W (HA2.out.errs.grown hW))
          unfold errOf at HNu
          rw [if_pos rfl] at HNu
          have hbq : ((strOf l).toList == (strOf l).toList) = true := beq_self_eq_true _
          clear hd hse2
          go_wp2_with (first
            | (go_at_call 12; refine (HD1.out _ HT.out).mono ?_; rintro e w5 ⟨hg5, a5, c5, rfl, hB5, _⟩; have T5 := Lib.hid (HT.out.still hg5); have B5 := Lib.hid hB5; clear hg5 hB5)
            | (go_at_call 13; refine (HD2.out _ T5.out).mono ?_; rintro e w6 ⟨hg6, u6, rfl, hf6⟩; have T6 := Lib.hid (T5.out.still hg6); have B6 := Lib.hid (B5.out.grown hg6); have F6 := Lib.hid (Bytes.own hf6.own B5.out.lt); clear hg6 hf6)
            | (go_at_call 14; with_reducible refine (HNu.out _ T6.out.base).mono ?_; rintro e w7 ⟨rfl, hg7⟩; have T7 := Lib.hid (T6.out.still hg7); have cv1 := conv_bytes (P := Tryz.prog) (B6.out.grown hg7) 27 5 9 Tryz.underlying27 Tryz.underlying5 Tryz.underlying9; have cv2 := conv_bytes (P := Tryz.prog) (F6.out.grown hg7) 27 5 9 Tryz.underlying27 Tryz.underlying5 Tryz.underlying9; clear hg7)
            | (go_at_call 19; refine (HRd.out _ T7.out.base).mono ?_; rintro e w8 ⟨rb, g8, c8, rfl, hg8, hb8, hc8, hrb8⟩; have H2G8 := Lib.hid (grown_trans (grown_alloc T7.out.base _) hg8); have HB8 := Lib.hid hb8; have HC8 := Lib.hid hc8; have HRb := Lib.hid (show w2.heap.size ≤ rb from Nat.le_trans (grown_alloc T7.out.base _).size hrb8); clear hg8 hb8 hc8 hrb8)
            | (go_at_call 21; with_reducible refine (rdMore0 one_pos9 HB8.out).mono ?_; rintro e wx ⟨rfl, rfl⟩)
            | (go_at_call 23; with_reducible refine (rdPeek0 one_pos9 HB8.out HC8.out).mono ?_; rintro e wx ⟨rfl, rfl⟩)
            | (go_at_call 43; with_reducible refine (rdFail0n HB8.out).mono ?_; rintro e w10 ⟨rfl, hw10⟩; have hb10 := wr3_same HB8.out (Value.nilIface); rw [← hw10] at hb10; have h210 := grown_set H2G8.out (p := ⟨rb, 2, none⟩) (.inl HRb.out) (Value.nilIface); rw [← hw10] at h210; have HB10 := Lib.hid hb10; have H2G10 := Lib.hid h210; clear hw10 hb10 h210)
            | (go_at_call 25; with_reducible refine (rdErr0 HB10.out).mono ?_; rintro e wx ⟨rfl, rfl⟩)
            | (go_at_call 42; refine (HErr.out _ H2G10.out).mono ?_; rintro e w11 ⟨rfl, hg11⟩; have HB11 := Lib.hid (hold_blk8 HB10.out hg11); have H2G11 := Lib.hid (grown_trans H2G10.out hg11); clear hg11)
            | (go_at_call 43; with_reducible refine (rdFail0e HB11.out A M).mono ?_; rintro e w12 ⟨rfl, hw12⟩; have hb12 := wr3_same HB11.out (errV A M); rw [← hw12] at hb12; have h212 := grown_set H2G11.out (p := ⟨rb, 2, none⟩) (.inl HRb.out) (errV A M); rw [← hw12] at h212; have z29 := HBz.out _ h212; have HB12 := Lib.hid hb12; have H2G12 := Lib.hid h212; clear hw12 hb12 h212)
            | (go_at_call 43; with_reducible refine (rdFail1 HB12.out _).mono ?_; rintro e wx ⟨rfl, rfl⟩)
            | (go_at_call 25; with_reducible refine (rdErr1 HB12.out).mono ?_; rintro e wx ⟨rfl, rfl⟩)
            | (go_at_call 14; with_reducible refine (HNuM.out _ H2G12.out).mono ?_; rintro e w13 ⟨rfl, hg13⟩; have HB13 := Lib.hid (hold_blk8 HB12.out hg13); have H2G13 := Lib.hid (grown_trans H2G12.out hg13); clear hg13)
            | (go_at_call 26; with_reducible refine (rdEnd1 HB13.out).mono ?_; rintro e wx ⟨rfl, rfl⟩)
            | (go_at_call 14; with_reducible refine (HNuM.out _ H2G13.out).mono ?_; rintro e w14 ⟨rfl, hg14⟩; have HB14 := Lib.hid (hold_blk8 HB13.out hg14); have H2G14 := Lib.hid (grown_trans H2G13.out hg14); clear hg14)
            | (go_at_call 21; with_reducible refine (rdMore1 HB14.out).mono ?_; rintro e wx ⟨rfl, rfl⟩)
            | (go_at_call 23; with_reducible refine (rdPeek1 HB14.out).mono ?_; rintro e wx ⟨rfl, rfl⟩)
            | (go_at_call 33; with_reducible refine (rdEnter1 HB14.out 48).mono ?_; rintro e w15 ⟨rfl, hg15⟩; have HB15 := Lib.hid (hold_blk8 HB14.out hg15); have H2G15 := Lib.hid (grown_trans H2G14.out hg15); clear hg15)
            | (go_at_call 44; with_reducible refine (rdInt1 HB15.out 0 9).mono ?_; rintro e w16 ⟨rfl, hg16⟩; have H2G16 := Lib.hid (grown_trans H2G15.out hg16); clear hg16))
          go_ret
          exact ⟨retB7 (by simp), grown_trans HG2.out H2G16.out⟩
end Go.Proofs.YtgahhbompnbcdaaGreatDoor
