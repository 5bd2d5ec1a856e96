/- The walk of the law TextsFlags, over what is asked of package texts. -/
import Derived.Test.YtbneggdfbkebcaaDoorPl0
import Derived.Test.YtbneggdfbkebcaaDoorPl1
namespace Go.Proofs.YtbneggdfbkebcaaDoor
open Go.RowKit

set_option maxRecDepth 100000 in
set_option maxHeartbeats 2000000 in
theorem textsFlags_any (A : Nat → Addr) (m : Int) (hm : inT m) (w : World) (hE : AllErrs w A) (hF : TxFlags A w) (hM : TxMask A w) :
    Calls Tryd.prog 4 #[.int .i64 m] w fun e w' => e = .returned (.bool true) ∧ w.grownBy w' none := by
  have HAl := Lib.hid (alive7_any A w hF)
  have HE1 := Lib.hid (fun W hW => num_of A 1 (by decide) W (hE.grown (w' := W) hW))
  have e1 : errOf A 1 = errV A 1 := rfl
  rw [e1] at HE1
  have hf := fun W hW => hF m W hm hW
  have hk := fun v l W hW hB hl => hM v l W hW hB hl
  by_cases hmk : isMk m
  · obtain ⟨m1, m2⟩ := id hmk
    simp only [if_pos hmk] at hf
    obtain ⟨M, rfl⟩ : ∃ M : Nat, m = (M : Int) := ⟨m.toNat, by omega⟩
    rw [Int.toNat_natCast] at hf
    have hM3 : M < 32768 := by omega
    have hmf := Pt.mask_flags hM3
    have hfl := Pt.flags_len M
    have hlt := Pt.flags_lt M hM3
    have HR := Lib.hid (fun W => refFlags_any M hM3 W)
    obtain ⟨B, hB⟩ : ∃ B, B = Pt.flags M := ⟨_, rfl⟩
    rw [← hB] at hf hmf hfl hlt HR
    have HF := Lib.hid hf
    have HK : Hid (∀ v W, w.grownBy W none → Bytes W v B → Calls Tryd.prog 17 #[v] W fun e w' => W.grownBy w' none ∧ e = .returned (.tuple #[.int .i64 (M : Int), .nilIface])) := Lib.hid (fun v W hW hB2 => by
      have := hk v B W hW hB2 (by omega)
      rw [hmf] at this
      exact this)
    have HC := Lib.hid (fun W x (hx : Bytes W x B) => conv_bytes (P := Tryd.prog) hx 24 5 9 Tryd.underlying24 Tryd.underlying5 Tryd.underlying9)
    obtain ⟨z, hz⟩ : ∃ z : Int, z = (M : Int) := ⟨_, rfl⟩
    have z1 : 0 ≤ z := by omega
    have z2 : z ≤ 32767 := by omega
    rw [← hz] at HF HK HR ⊢
    clear hf hk hmf hfl hlt hB hmk m1 m2 hM3 hm hE hF hM e1 hz
    go_enter Tryd.func4, Tryd.ntmps4
    go_wp2_with (first
      | (go_at_call 7; refine HAl.out.mono ?_; rintro e w1 ⟨rfl, hg1⟩; have HG1 := Lib.hid hg1; clear hg1)
      | (go_at_call 16; refine (HF.out _ HG1.out).mono ?_; rintro e w2 ⟨hg2, a, c, rfl, hB2⟩; have HG2 := Lib.hid (grown_trans HG1.out hg2); have HB2 := Lib.hid hB2; clear hg2 hB2)
      | (go_at_call 17; refine (HK.out _ _ HG2.out HB2.out).mono ?_; rintro e w3 ⟨hg3, rfl⟩; have HG3 := Lib.hid (grown_trans HG2.out hg3); have HB3 := Lib.hid (HB2.out.grown hg3); clear hg3))
    refine tf_region _ z a B.length c (strOf B) B w3 w3 _ rfl rfl rfl rfl rfl rfl (fun W _ => (HR.out W).mono (fun e w' ⟨v, h1, h2, h3⟩ => ⟨v, h1, h3, h2⟩)) (fun W hW => HC.out W _ (HB3.out.grown hW)) (fun W x hx => HC.out W x hx) ⟨rfl, rfl, rfl, Nat.le_refl _, fun _ _ _ => rfl⟩ (fun us w4 hg4 => ?_)
    simp only [fill_cons, fill_nil, Act.put, List.setIfInBounds_toArray, List.set_cons_succ, List.set_cons_zero]
    have HG4 := Lib.hid hg4
    clear hg4
    go_wp2
    go_ret
    exact ⟨rfl, grown_trans HG3.out HG4.out⟩
  · simp only [if_neg hmk] at hf
    have HF := Lib.hid hf
    have hout : m < 0 ∨ 32767 < m := by unfold isMk at hmk; omega
    clear hf hk hmk hm hE hF hM e1
    rcases hout with h | h
    · go_enter Tryd.func4, Tryd.ntmps4
      go_wp2_with (first
        | (go_at_call 7; refine HAl.out.mono ?_; rintro e w1 ⟨rfl, hg1⟩; have HG1 := Lib.hid hg1; clear hg1)
        | (go_at_call 16; refine (HF.out _ HG1.out).mono ?_; rintro e w2 ⟨hg2, a, c, rfl⟩; have HG2 := Lib.hid (grown_trans HG1.out hg2); clear hg2)
        | (go_at_call 15; refine (HE1.out _ HG2.out).mono ?_; rintro e w3 ⟨rfl, hg3⟩; have HG3 := Lib.hid (grown_trans HG2.out hg3); clear hg3))
      go_ret
      exact ⟨rfl, HG3.out⟩
    · go_enter Tryd.func4, Tryd.ntmps4
      go_wp2_with (first
        | (go_at_call 7; refine HAl.out.mono ?_; rintro e w1 ⟨rfl, hg1⟩; have HG1 := Lib.hid hg1; clear hg1)
        | (go_at_call 16; refine (HF.out _ HG1.out).mono ?_; rintro e w2 ⟨hg2, a, c, rfl⟩; have HG2 := Lib.hid (grown_trans HG1.out hg2); clear hg2)
        | (go_at_call 15; refine (HE1.out _ HG2.out).mono ?_; rintro e w3 ⟨rfl, hg3⟩; have HG3 := Lib.hid (grown_trans HG2.out hg3); clear hg3))
      go_ret
      exact ⟨rfl, HG3.out⟩
end Go.Proofs.YtbneggdfbkebcaaDoor
