/- What is asked of package moments, and the law's alive. -/
import Derived.Test.YtndjhhebmbmppaaDoorMr3
import Derived.Test.YtndjhhebmbmppaaDoorMr4
import Derived.Test.YtndjhhebmbmppaaDoorMr5
import Derived.Test.YtndjhhebmbmppaaDoorCa2
import Derived.Test.YtndjhhebmbmppaaDoorEv
import Derived.Test.YtndjhhebmbmppaaDoorKp
namespace Go.Proofs.YtndjhhebmbmppaaDoor
open Go.RowKit

def inI (t : Int) : Prop := -9223372036854775808 ≤ t ∧ t ≤ 9223372036854775807
/-- A moment. -/
def isM (t : Int) : Prop := 0 ≤ t ∧ t ≤ 253402300799
instance (t : Int) : Decidable (isM t) := by unfold isM; infer_instance
def noDate : Value := .agg #[.int .i64 0, .int .i64 0, .int .i64 0, .int .i64 0, .int .i64 0, .int .i64 0]
/-- moments.Of answers as the document says, from w on. -/
def MoOf (A : Nat → Addr) (w : World) : Prop := ∀ (t : Int) (W : World), inI t → w.grownBy W none → Calls Tryd.prog 8 #[.int .i64 t] W fun e w' => W.grownBy w' none ∧ e = .returned (.tuple (if isM t then #[dV (Cal.of t.toNat).toI, .nilIface] else #[noDate, errV A 1]))
def MoPut (A : Nat → Addr) (w : World) : Prop := ∀ (t : Int) (W : World), inI t → w.grownBy W none → Calls Tryd.prog 9 #[.int .i64 t] W fun e w' => W.grownBy w' none ∧
  if isM t then ∃ a c, e = .returned (.tuple #[.slice a 15 c, .nilIface]) ∧ Bytes w' (.slice a 15 c) (Cal.text (Cal.of t.toNat)) else ∃ a c, e = .returned (.tuple #[.slice a 0 c, errV A 1])
def MoSec (A : Nat → Addr) (w : World) : Prop := ∀ (d : Cal.DI) (W : World), (inI d.Y ∧ inI d.M ∧ inI d.D ∧ inI d.h ∧ inI d.mi ∧ inI d.s) → w.grownBy W none → Calls Tryd.prog 13 #[dV d] W fun e w' => W.grownBy w' none ∧ e = .returned (.tuple (if Cal.rightI d = true then #[.int .i64 ((Cal.sec d.toD : Nat) : Int), .nilIface] else #[.int .i64 0, errV A 1]))
def moGot (A : Nat → Addr) : Except Nat Nat → Value
  | .ok n => .tuple #[.int .i64 (n : Int), .nilIface]
  | .error k => .tuple #[.int .i64 0, errV A k]
def MoGet (A : Nat → Addr) (w : World) : Prop := ∀ (v : Value) (l : List Nat) (W : World), w.grownBy W none → Bytes W v l → l.length ≤ 1000 → Calls Tryd.prog 14 #[v] W fun e w' => W.grownBy w' none ∧ e = .returned (moGot A (Cal.get l))
def MoWd (w : World) : Prop := ∀ (t : Int) (W : World), inI t → w.grownBy W none → Calls Tryd.prog 11 #[.int .i64 t] W fun e w' => W.grownBy w' none ∧ e = .returned (.int .i64 (if isM t then (t / 86400 + 4) % 7 else -1))
def MoAdd (A : Nat → Addr) (w : World) : Prop := ∀ (t s : Int) (W : World), inI t → inI s → w.grownBy W none → Calls Tryd.prog 25 #[.int .i64 t, .int .i64 s] W fun e w' => W.grownBy w' none ∧ e = .returned (.tuple (if isM t ∧ isM (t + s) then #[.int .i64 (t + s), .nilIface] else #[.int .i64 0, errV A 1]))
def MoLeap (w : World) : Prop := ∀ (y : Int) (W : World), inI y → w.grownBy W none → Calls Tryd.prog 23 #[.int .i64 y] W fun e w' => W.grownBy w' none ∧ e = .returned (.bool (Cal.leapI y))
def MoDays (w : World) : Prop := ∀ (y m : Int) (W : World), inI y → inI m → w.grownBy W none → Calls Tryd.prog 21 #[.int .i64 y, .int .i64 m] W fun e w' => W.grownBy w' none ∧ e = .returned (.int .i64 ((Cal.daysI y m : Nat) : Int))

theorem of2000 : Cal.text (Cal.of 951782400) = [50, 48, 48, 48, 48, 50, 50, 57, 48, 48, 48, 48, 48, 48, 90] := by
  have hr : Cal.Right ⟨2000, 2, 29, 0, 0, 0⟩ := by decide +kernel
  have hs : Cal.sec ⟨2000, 2, 29, 0, 0, 0⟩ = 951782400 := by decide +kernel
  have := Cal.of_sec hr
  rw [hs] at this
  rw [this]
  rfl
set_option maxRecDepth 100000 in
theorem alive6_any (A : Nat → Addr) (w : World) (hP : MoPut A w) (hW : MoWd w) :
    Calls Tryd.prog 7 #[] w fun e w' => e = .returned (.bool true) ∧ w.grownBy w' none := by
  have hi : inI 951782400 := by unfold inI; omega
  have hm : isM 951782400 := by unfold isM; omega
  have h := hP 951782400 w hi (grown_refl _ _)
  have h2 := fun W hg => hW 951782400 W hi hg
  simp only [if_pos hm] at h h2
  rw [show (951782400 : Int).toNat = 951782400 from rfl, of2000] at h
  have HP := Lib.hid h
  have HW := Lib.hid h2
  have k1 : ((strOf [50, 48, 48, 48, 48, 50, 50, 57, 48, 48, 48, 48, 48, 48, 90]).toList == [50, 48, 48, 48, 48, 50, 50, 57, 48, 48, 48, 48, 48, 48, 90]) = true := by decide +kernel
  clear h h2 hP hW hi hm
  go_enter Tryd.func7, Tryd.ntmps7
  go_wp2_with (first
    | (go_at_call 9; refine HP.out.mono ?_; rintro e w1 ⟨hg1, a, c, rfl, hB1⟩; have HG1 := Lib.hid hg1; have c1 := conv_bytes (P := Tryd.prog) hB1 29 5 9 Tryd.underlying29 Tryd.underlying5 Tryd.underlying9; clear hg1 hB1)
    | (go_at_call 11; refine (HW.out _ HG1.out).mono ?_; rintro e w2 ⟨hg2, rfl⟩; have HG2 := Lib.hid (grown_trans HG1.out hg2); clear hg2))
  go_ret
  exact ⟨retB2 (by simp), HG2.out⟩
end Go.Proofs.YtndjhhebmbmppaaDoor
