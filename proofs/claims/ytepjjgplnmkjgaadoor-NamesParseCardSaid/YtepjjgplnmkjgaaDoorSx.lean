/- The library's contract of strings' Index of one byte, laid at this program; strings.Cut at one byte, walked. -/
import Derived.Shelf.Strings.Search2
import Derived.Test.YtepjjgplnmkjgaaDoorChecked
import Derived.Test.YtepjjgplnmkjgaaDoorNq0
import Derived.Lib.IndexBytes
import Derived.BigQuiet
namespace Go.Proofs
open Go.Shelf
def Tryd.lays219_ren : Go.Shelf.Ren := ⟨fun | 219 => 39 | 217 => 41 | 225 => 42 | 224 => 43 | 267 => 44 | 266 => 45 | 314 => 46 | n => n, fun | 9 => 9 | 3 => 3 | 4 => 4 | 5 => 5 | 46 => 83 | 146 => 85 | 51 => 84 | n => n, fun | 1 => 29 | n => n⟩
theorem Tryd.lays219 : Go.Proofs.Lays.n219 Tryd.prog Tryd.lays219_ren := {
  mixed := by kernel_rfl
  f217 := Tryd.func41.trans (congrArg some (by kernel_rfl))
  f219 := Tryd.func39.trans (congrArg some (by kernel_rfl))
  f224 := Tryd.func43.trans (congrArg some (by kernel_rfl))
  f225 := Tryd.func42.trans (congrArg some (by kernel_rfl))
  f266 := Tryd.func45.trans (congrArg some (by kernel_rfl))
  f267 := Tryd.func44.trans (congrArg some (by kernel_rfl))
  f314 := Tryd.func46.trans (congrArg some (by kernel_rfl))
  t3 := Tryd.underlying3
  a3 := Tryd.isAgg3
  z3 := Tryd.sizeOf3
  v3 := Tryd.zeroValue3
  t4 := Tryd.underlying4
  a4 := Tryd.isAgg4
  z4 := Tryd.sizeOf4
  v4 := Tryd.zeroValue4
  t5 := Tryd.underlying5
  a5 := Tryd.isAgg5
  z5 := Tryd.sizeOf5
  v5 := Tryd.zeroValue5
  t9 := Tryd.underlying9
  a9 := Tryd.isAgg9
  z9 := Tryd.sizeOf9
  v9 := Tryd.zeroValue9
  t46 := Tryd.underlying83
  a46 := Tryd.isAgg83
  z46 := Tryd.sizeOf83
  v46 := Tryd.zeroValue83
  t51 := Tryd.underlying84
  a51 := Tryd.isAgg84
  z51 := Tryd.sizeOf84
  v51 := Tryd.zeroValue84
  t146 := Tryd.underlying85
  a146 := Tryd.isAgg85
  z146 := Tryd.sizeOf85
  v146 := Tryd.zeroValue85
  g1 := by kernel_rfl }
end Go.Proofs
namespace Go.Proofs.YtepjjgplnmkjgaaDoor
open Go.RowKit
set_option linter.unusedVariables false

theorem index1_any (s : ByteArray) (c : UInt8) (W : World) : Calls Tryd.prog 39 #[.string s, .string ⟨#[c]⟩] W fun e w' => e = .returned (.int .i64 (Lib.indexByte s.data.toList c)) ∧ w' = W :=
  Any.stringslite_Index_one Tryd.lays219 s c W
theorem cut_index (c : UInt8) : ∀ (l : List UInt8),
    (Lib.indexByte l c = -1 ∧ Na.cutN c.toNat (l.map (·.toNat)) = (l.map (·.toNat), [], false)) ∨
    ∃ k : Nat, Lib.indexByte l c = k ∧ k < l.length ∧ Na.cutN c.toNat (l.map (·.toNat)) = ((l.take k).map (·.toNat), (l.drop (k + 1)).map (·.toNat), true)
  | [] => .inl ⟨rfl, rfl⟩
  | b :: r => by
    by_cases hb : b = c
    · subst hb
      refine .inr ⟨0, by simp [Lib.indexByte], by simp, ?_⟩
      rw [List.map_cons, Na.cutN, if_pos rfl]
      simp
    · have hb2 : b.toNat ≠ c.toNat := fun e => hb (UInt8.toNat_inj.1 e)
      have hb3 : (b == c) = false := by simp [hb]
      rcases cut_index c r with ⟨h1, h2⟩ | ⟨k, h1, h2, h3⟩
      · refine .inl ⟨by rw [Lib.indexByte, hb3, h1]; simp, ?_⟩
        rw [List.map_cons, Na.cutN, if_neg hb2, h2]
      · refine .inr ⟨k + 1, ?_, by simp; omega, ?_⟩
        · rw [Lib.indexByte, hb3, h1]
          have : ((k : Int) == -1) = false := by rw [beq_eq_false_iff_ne]; omega
          rw [this]; simp
        · rw [List.map_cons, Na.cutN, if_neg hb2, h3]
          simp
/-- What Cut answers, at one byte. -/
def cutV (c : Nat) (s : ByteArray) : Array Value := #[.string (strOf (Na.cutN c (strL s)).1), .string (strOf (Na.cutN c (strL s)).2.1), .bool (Na.cutN c (strL s)).2.2]
set_option maxRecDepth 100000 in
set_option maxHeartbeats 1000000 in
theorem cutLite_any (s : ByteArray) (c : UInt8) (hs : s.size ≤ 1000000) (w : World) : Calls Tryd.prog 35 #[.string s, .string ⟨#[c]⟩] w fun e w' => e = .returned (.tuple (cutV c.toNat s)) ∧ w.grownBy w' none := by
  have HI := Lib.hid (index1_any s c w)
  have hsl : s.data.toList.length = s.size := by rw [Array.length_toList]; rfl
  have hz : ((⟨#[c]⟩ : ByteArray).size : Int) = 1 := rfl
  rcases cut_index c s.data.toList with ⟨h1, h2⟩ | ⟨k, h1, h2, h3⟩
  · rw [h1] at HI
    have hR : cutV c.toNat s = #[.string s, .string ⟨#[]⟩, .bool false] := by
      unfold cutV
      have e : Na.cutN c.toNat (strL s) = (strL s, [], false) := h2
      rw [e]
      simp only
      rw [strOf_strL]; rfl
    rw [hR]
    clear h1 h2 hR
    go_enter Tryd.func35, Tryd.ntmps35
    go_wp2_with (go_at_call 39; refine HI.out.mono ?_; rintro e w1 ⟨rfl, rfl⟩)
    go_ret3
    exact ⟨rfl, grown_refl _ _⟩
  · rw [h1] at HI
    have hR : cutV c.toNat s = #[.string (s.extract 0 k), .string (s.extract (k + 1) s.size), .bool true] := by
      unfold cutV
      have e : Na.cutN c.toNat (strL s) = ((s.data.toList.take k).map (·.toNat), (s.data.toList.drop (k + 1)).map (·.toNat), true) := h3
      rw [e]
      simp only
      have e1 : strL (s.extract 0 k) = (s.data.toList.take k).map (·.toNat) := by
        unfold strL
        rw [ByteArray.data_extract, Array.toList_extract, List.extract_eq_take_drop]; simp
      have e2 : strL (s.extract (k + 1) s.size) = (s.data.toList.drop (k + 1)).map (·.toNat) := by
        unfold strL
        rw [ByteArray.data_extract, Array.toList_extract, List.extract_eq_take_drop]
        rw [List.take_of_length_le (by rw [List.length_drop, hsl]; omega)]
      rw [← e1, ← e2, strOf_strL, strOf_strL]
    rw [hR]
    have k0 : (0 : Int) ≤ (k : Int) := by omega
    have k1 : (k : Int) ≤ (s.size : Int) := by omega
    have k2 : (k : Int) + 1 ≤ (s.size : Int) := by omega
    have k3 : (0 : Int) ≤ (k : Int) + 1 := by omega
    have k4 : wrap64 ((k : Int) + 1) = (k : Int) + 1 := by unfold wrap64; omega
    have k5 : ((k : Int) + 1).toNat = k + 1 := by omega
    clear h1 h3 hR hsl
    go_enter Tryd.func35, Tryd.ntmps35
    go_wp2_with (go_at_call 39; refine HI.out.mono ?_; rintro e w1 ⟨rfl, rfl⟩)
    go_quiet (fail)
    go_wp2
    go_ret3
    exact ⟨rfl, grown_drewN (grown_refl _ _) _⟩
set_option maxRecDepth 100000 in
theorem cut_any (s : ByteArray) (c : UInt8) (hs : s.size ≤ 1000000) (w : World) : Calls Tryd.prog 24 #[.string s, .string ⟨#[c]⟩] w fun e w' => e = .returned (.tuple (cutV c.toNat s)) ∧ w.grownBy w' none := by
  have HC := Lib.hid (cutLite_any s c hs w)
  unfold cutV at HC ⊢
  go_enter Tryd.func24, Tryd.ntmps24
  go_wp2_with (go_at_call 35; refine HC.out.mono ?_; rintro e w1 ⟨rfl, hg1⟩; have HG := Lib.hid hg1; clear hg1)
  go_ret3
  exact ⟨rfl, HG.out⟩
end Go.Proofs.YtepjjgplnmkjgaaDoor
