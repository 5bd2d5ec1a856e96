/- What is asked of package oids, and the law's alive. -/
import Derived.Test.YtpjhkmdlegjdaaaDoorOd9
import Derived.Test.YtpjhkmdlegjdaaaDoorEv
import Derived.Test.YtpjhkmdlegjdaaaDoorIn2
import Derived.Test.YtpjhkmdlegjdaaaDoorOd4
import Derived.Test.YtpjhkmdlegjdaaaDoorOd5
namespace Go.Proofs.YtpjhkmdlegjdaaaDoor
open Go.RowKit

/-- oids.Parse answers as the document says, from w on. -/
def PaSpec (A : Nat → Addr) (w : World) : Prop := ∀ (s : ByteArray) (W : World), s.size ≤ 100000 → w.grownBy W none → Calls Tryd.prog 7 #[.string s] W fun e w' => W.grownBy w' none ∧ match Od.parse (strL s) with
  | .ok l => ∃ a c, e = .returned (.tuple #[.slice a l.length c, .nilIface]) ∧ Ints w' (.slice a l.length c) l
  | .error k => ∃ a c, e = .returned (.tuple #[.slice a 0 c, errV A k]) ∧ Ints w' (.slice a 0 c) []
def PtSpec (A : Nat → Addr) (w : World) : Prop := ∀ (s : ByteArray) (W : World), s.size ≤ 100000 → w.grownBy W none → Calls Tryd.prog 9 #[.string s] W fun e w' => W.grownBy w' none ∧ match Od.parse (strL s) with
  | .ok l => ∃ a c, e = .returned (.tuple #[.slice a (Od.put l).length c, .nilIface]) ∧ Bytes w' (.slice a (Od.put l).length c) (Od.put l) ∧ Whole0 (.slice a (Od.put l).length c)
  | .error k => ∃ a c, e = .returned (.tuple #[.slice a 0 c, errV A k]) ∧ Bytes w' (.slice a 0 c) []
theorem parseErr {l : List Nat} {k : Nat} (h : Od.parse l = .error k) : k = 4 ∨ k = 1 := by
  rw [Od.parse] at h
  split at h
  · cases h; exact .inl rfl
  · split at h
    · cases h
    · cases h; exact .inr rfl

set_option maxRecDepth 100000 in
theorem alive5_any (A : Nat → Addr) (w : World) (hP : PtSpec A w) :
    Calls Tryd.prog 6 #[] w fun e w' => e = .returned (.bool true) ∧ w.grownBy w' none := by
  obtain ⟨t, ht⟩ : ∃ t : ByteArray, t = ⟨#[49, 46, 50, 46, 56, 52, 48]⟩ := ⟨_, rfl⟩
  have h := hP t w (by rw [ht]; decide) (grown_refl _ _)
  have hp : Od.parse (strL t) = .ok [1, 2, 840] := by
    rw [show strL t = Od.text [1, 2, 840] by rw [ht]; decide +kernel]
    exact Od.parse_text (by decide)
  have hput : Od.put [1, 2, 840] = [42, 134, 72] := by decide +kernel
  rw [hp, ht] at h
  have HP : Hid (Calls Tryd.prog 9 #[.string ⟨#[49, 46, 50, 46, 56, 52, 48]⟩] w fun e w' => w.grownBy w' none ∧ ∃ a c, e = .returned (.tuple #[.slice a 3 c, .nilIface]) ∧ Bytes w' (.slice a 3 c) [42, 134, 72]) := Lib.hid (h.mono (by
    rintro e w' ⟨h1, a, c, h2, h3, _⟩
    rw [hput] at h2 h3
    exact ⟨h1, a, c, h2, h3⟩))
  have k1 : ((strOf [42, 134, 72]).toList == [42, 134, 72]) = true := by decide +kernel
  clear hp h ht hP hput
  go_enter Tryd.func6, Tryd.ntmps6
  go_wp2_with (go_at_call 9; refine HP.out.mono ?_; rintro e w1 ⟨hg1, a, c, rfl, hB1⟩; have HG1 := Lib.hid hg1; have c1 := conv_bytes (P := Tryd.prog) hB1 30 5 9 Tryd.underlying30 Tryd.underlying5 Tryd.underlying9; clear hg1 hB1)
  go_ret
  exact ⟨retBo (by simp), HG1.out⟩
end Go.Proofs.YtpjhkmdlegjdaaaDoor
