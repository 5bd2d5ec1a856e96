/- What is asked of package texts, and the law's alive. -/
import Derived.Test.YtbneggdfbkebcaaDoorPt7
import Derived.Test.YtbneggdfbkebcaaDoorPt4
import Derived.Test.YtbneggdfbkebcaaDoorPt2
import Derived.Test.YtbneggdfbkebcaaDoorEv
import Derived.Test.YtbneggdfbkebcaaDoorKp
import Derived.Test.YtbneggdfbkebcaaDoorFl5
namespace Go.Proofs.YtbneggdfbkebcaaDoor
open Go.RowKit

def inT (t : Int) : Prop := -9223372036854775808 ≤ t ∧ t ≤ 9223372036854775807
/-- A mask. -/
def isMk (m : Int) : Prop := 0 ≤ m ∧ m < 32768
instance (m : Int) : Decidable (isMk m) := by unfold isMk; infer_instance
def TxPlain (w : World) : Prop := ∀ (s : ByteArray) (W : World), s.size ≤ 1000 → w.grownBy W none → Calls Tryd.prog 8 #[.string s] W fun e w' => W.grownBy w' none ∧ e = .returned (.bool (Pt.plain (strL s)))
def TxLabel (w : World) : Prop := ∀ (s : ByteArray) (W : World), s.size ≤ 1000 → w.grownBy W none → Calls Tryd.prog 10 #[.string s] W fun e w' => W.grownBy w' none ∧ e = .returned (.bool (Pt.label (strL s)))
/-- texts.Put answers as the document says, from w on. -/
def TxPut (A : Nat → Addr) (w : World) : Prop := ∀ (s : ByteArray) (most : Int) (W : World), s.size ≤ 1000 → inT most → w.grownBy W none → Calls Tryd.prog 12 #[.string s, .int .i64 most] W fun e w' => W.grownBy w' none ∧
  if Pt.asked (strL s) most = 0 then ∃ a c, e = .returned (.tuple #[.slice a s.size c, .nilIface]) ∧ Bytes w' (.slice a s.size c) (strL s) else ∃ a c, e = .returned (.tuple #[.slice a 0 c, errV A (Pt.asked (strL s) most)])
def TxGet (A : Nat → Addr) (w : World) : Prop := ∀ (v : Value) (s : ByteArray) (most : Int) (W : World), s.size ≤ 1000 → inT most → w.grownBy W none → Bytes W v (strL s) → Calls Tryd.prog 13 #[v, .int .i64 most] W fun e w' => W.grownBy w' none ∧
  e = .returned (.tuple (if Pt.asked (strL s) most = 0 then #[.string s, .nilIface] else #[.string ⟨#[]⟩, errV A (Pt.asked (strL s) most)]))
def TxFlags (A : Nat → Addr) (w : World) : Prop := ∀ (m : Int) (W : World), inT m → w.grownBy W none → Calls Tryd.prog 16 #[.int .i64 m] W fun e w' => W.grownBy w' none ∧
  if isMk m then ∃ a c, e = .returned (.tuple #[.slice a (Pt.flags m.toNat).length c, .nilIface]) ∧ Bytes w' (.slice a (Pt.flags m.toNat).length c) (Pt.flags m.toNat) else ∃ a c, e = .returned (.tuple #[.slice a 0 c, errV A 1])
def mkGot (A : Nat → Addr) : Except Nat Nat → Value
  | .ok n => .tuple #[.int .i64 (n : Int), .nilIface]
  | .error k => .tuple #[.int .i64 0, errV A k]
def TxMask (A : Nat → Addr) (w : World) : Prop := ∀ (v : Value) (l : List Nat) (W : World), w.grownBy W none → Bytes W v l → l.length ≤ 1000 → Calls Tryd.prog 17 #[v] W fun e w' => W.grownBy w' none ∧ e = .returned (mkGot A (Pt.mask l))

theorem flags1 : Pt.flags 1 = [7, 128] := by decide +kernel
theorem flags256 : Pt.flags 256 = [7, 0, 128] := by decide +kernel
set_option maxRecDepth 100000 in
theorem alive7_any (A : Nat → Addr) (w : World) (hF : TxFlags A w) :
    Calls Tryd.prog 7 #[] w fun e w' => e = .returned (.bool true) ∧ w.grownBy w' none := by
  have i1 : inT 1 := by unfold inT; omega
  have i2 : inT 256 := by unfold inT; omega
  have m1 : isMk 1 := by unfold isMk; omega
  have m2 : isMk 256 := by unfold isMk; omega
  have h1 := hF 1 w i1 (grown_refl _ _)
  have h2 := fun W hg => hF 256 W i2 hg
  simp only [if_pos m1] at h1
  simp only [if_pos m2] at h2
  rw [show (1 : Int).toNat = 1 from rfl, flags1] at h1
  rw [show (256 : Int).toNat = 256 from rfl, flags256] at h2
  have H1 : Hid (Calls Tryd.prog 16 #[.int .i64 1] w fun e w' => w.grownBy w' none ∧ ∃ a c, e = .returned (.tuple #[.slice a 2 c, .nilIface]) ∧ Bytes w' (.slice a 2 c) [7, 128]) := Lib.hid h1
  have H2 : Hid (∀ W, w.grownBy W none → Calls Tryd.prog 16 #[.int .i64 256] W fun e w' => W.grownBy w' none ∧ ∃ a c, e = .returned (.tuple #[.slice a 3 c, .nilIface]) ∧ Bytes w' (.slice a 3 c) [7, 0, 128]) := Lib.hid h2
  have k1 : ((strOf [7, 128]).toList == [7, 128]) = true := by decide +kernel
  have k2 : ((strOf [7, 0, 128]).toList == [7, 0, 128]) = true := by decide +kernel
  clear h1 h2 hF i1 i2 m1 m2
  go_enter Tryd.func7, Tryd.ntmps7
  go_wp2_with (first
    | (go_at_call 16; with_reducible refine H1.out.mono ?_; rintro e w1 ⟨hg1, a, c, rfl, hB1⟩; have HG1 := Lib.hid hg1; have HB1 := Lib.hid hB1; clear hg1 hB1)
    | (go_at_call 16; with_reducible refine (H2.out _ HG1.out).mono ?_; rintro e w2 ⟨hg2, a2, c2, rfl, hB2⟩; have HG2 := Lib.hid (grown_trans HG1.out hg2); have q1 := conv_bytes (P := Tryd.prog) (HB1.out.grown hg2) 24 5 9 Tryd.underlying24 Tryd.underlying5 Tryd.underlying9; have q2 := conv_bytes (P := Tryd.prog) hB2 24 5 9 Tryd.underlying24 Tryd.underlying5 Tryd.underlying9; clear hg2 hB2))
  go_ret
  exact ⟨retB7 (by simp), HG2.out⟩
end Go.Proofs.YtbneggdfbkebcaaDoor
