/- The walk of the law WholePut. -/
import Derived.Test.YtbbkhdgkpacjgaaDoorWr1
import Derived.Test.YtbbkhdgkpacjgaaDoorNm3
namespace Go.Proofs.YtbbkhdgkpacjgaaDoor
open Go.RowKit

theorem getOk_any (A : Nat → Addr) (v : Value) (l : List Nat) (n : Int) (w : World) (hB : Bytes w v l) (hg : Wh.get l = .ok n) (hE : AllErrs w A) :
    Calls Tryd.prog 9 #[v] w fun e w' => e = .returned (.tuple #[.int .i64 n, .nilIface]) ∧ w.grownBy w' none :=
  (get_any A v l w hB hE).mono (by rintro e w' ⟨hp, hg2⟩; unfold GtPost at hp; rw [hg] at hp; exact ⟨hp, hg2⟩)
theorem getErr_any (A : Nat → Addr) (v : Value) (l : List Nat) (k : Nat) (w : World) (hB : Bytes w v l) (hg : Wh.get l = .error k) (hE : AllErrs w A) :
    Calls Tryd.prog 9 #[v] w fun e w' => e = .returned (.tuple #[.int .i64 0, errV A k]) ∧ w.grownBy w' none :=
  (get_any A v l w hB hE).mono (by rintro e w' ⟨hp, hg2⟩; unfold GtPost at hp; rw [hg] at hp; exact ⟨hp, hg2⟩)

set_option maxRecDepth 100000 in
set_option maxHeartbeats 1000000 in
theorem wholePut_any (A : Nat → Addr) (n : Int) (h1 : -9223372036854775808 ≤ n) (h2 : n ≤ 9223372036854775807) (w : World) (hE : AllErrs w A) :
    Calls Tryd.prog 3 #[.int .i64 n] w fun e w' => e = .returned (.bool true) ∧ w.grownBy w' none := by
  have HAl := Lib.hid (alive4_any w)
  have HE := Lib.hid (fun W hW => hE.grown (w' := W) hW)
  have hP := fun W => put_any n h1 h2 W
  have hbs := fun W => wbytes_any n h1 h2 W
  have hgb := Wh.get_body n h1 h2
  have hgm := Wh.get_more n h1 h2
  have hblt := Wh.body_lt n
  have hbl8 := Wh.body_len n
  have HRP := Lib.hid (fun W => refWPut_any n W)
  have HNm := Lib.hid (fun W hW => num_of A 4 (by decide) W (hE.grown (w' := W) hW))
  obtain ⟨B, hB⟩ : ∃ B, B = Wh.body n := ⟨_, rfl⟩
  rw [← hB] at hP hbs hgb hgm hblt hbl8 HRP
  obtain ⟨L, hL⟩ : ∃ L, L = B.length := ⟨_, rfl⟩
  rw [← hL] at hP hbs hbl8
  have HP := Lib.hid hP
  have HBs := Lib.hid hbs
  have HGb := Lib.hid hgb
  have HBlt := Lib.hid hblt
  have HL := Lib.hid hL
  have e4 : errOf A 4 = errV A 4 := rfl
  obtain ⟨S, hS⟩ : ∃ S, S = strOf B := ⟨_, rfl⟩
  have HS := Lib.hid hS
  obtain ⟨sg, hsg⟩ : ∃ sg : Nat, sg = if n < 0 then 255 else 0 := ⟨_, rfl⟩
  have hsg2 : sg < 256 := by rw [hsg]; split <;> decide
  rw [← hsg] at hgm
  have HGm := Lib.hid hgm
  have Hsg2 := Lib.hid hsg2
  clear hP hbs hgb hgm hblt hB hL hS hE hsg2
  go_enter Tryd.func3, Tryd.ntmps3
  go_wp2_with (first
    | (go_at_call 7; refine HAl.out.mono ?_; rintro e w1 ⟨rfl, hg1⟩; have HG1 := Lib.hid hg1; clear hg1)
    | (go_at_call 8; refine (HP.out _).mono ?_; rintro e w2 ⟨rfl, hg2, hb2⟩; have HG2 := Lib.hid (grown_trans HG1.out hg2); have HB2 := Lib.hid hb2; clear hg2 hb2)
    | (go_at_call 9; refine (getOk_any A _ B n _ HB2.out HGb.out (HE.out _ HG2.out)).mono ?_; rintro e w3 ⟨rfl, hg3⟩; have HG23 := Lib.hid hg3; have HG3 := Lib.hid (grown_trans HG2.out hg3); clear hg3))
  refine wp_region5 _ n _ L S B w3 _ _ rfl rfl rfl rfl rfl (fun W hW => by rw [HS.out]; exact conv_bytes (HB2.out.grown (grown_trans HG23.out hW)) _ 5 _ Tryd.underlying23 Tryd.underlying5 Tryd.underlying9) (fun W x hx => by rw [HS.out]; exact conv_bytes hx _ 5 _ Tryd.underlying23 Tryd.underlying5 Tryd.underlying9)
    (fun W hW => (HRP.out W).mono fun e w' ⟨v, h1, h2, h3, _⟩ => ⟨v, h1, h2, h3⟩) (fun W => HBs.out W) ⟨rfl, rfl, rfl, Nat.le_refl _, fun _ _ _ => rfl⟩ (fun us w4 hg4 => ?_)
  simp only [fill_cons, fill_nil, Act.put, List.setIfInBounds_toArray, List.set_cons_succ, List.set_cons_zero]
  have HG4 := Lib.hid (grown_trans HG3.out hg4)
  have HB4 := Lib.hid (HB2.out.grown (grown_trans HG23.out hg4))
  have F0 : Hid (FrW w4 (w4.alloc (.cells #[.int .u8 (sg : Int)] 5)) (.slice (some ⟨w4.heap.size, 0, none⟩) 1 1) [sg]) := Lib.hid ⟨World.grownBy_alloc _ _ _, ownsRow_lit (alloc_at w4 _) (Nat.le_refl _) (by simp)⟩
  have HW4 : Hid (∀ a : Addr, Whole0 (.slice (some a) L L)) := Lib.hid (fun a => Whole0.some _ _ _)
  clear hg4
  have HBl2 : Hid (∀ x ∈ [sg] ++ B, x < 256) := Lib.hid (fun x hx => by simp only [List.cons_append, List.nil_append, List.mem_cons] at hx; rcases hx with rfl | hx; exact Hsg2.out; exact HBlt.out x hx)
  by_cases hn : n < 0
  · obtain rfl : sg = 255 := by rw [hsg, if_pos hn]
    clear hsg h1 h2
    go_wp2_with (first
      | (at_builtin; refine wpList_appB (by rfl) (.tmp 42) (.tmp 43) 23 (by rfl) w4.heap.size 5 (.int .u8 0) 1 Tryd.underlying23 (by kernel_rfl) rfl (by decide) _ 1 (cellsL [255]) (by rfl) F0.out.own _ B (by rfl) (HB4.out.grown F0.out.grown) (HW4.out _) (by rw [← HL.out]; omega) F0.out.le ?_; intro v6 w6 ho6 hg6; have F6 := Lib.hid (F0.out.step (l' := [255] ++ B) ho6 hg6 (cellsL_append _ _).symm); clear ho6 hg6)
      | (go_at_call 9; refine (getErr_any A _ _ 4 _ (Bytes.own F6.out.own HBl2.out) HGm.out (HE.out _ (grown_trans HG4.out F6.out.grown))).mono ?_; rintro e w7 ⟨rfl, hg7⟩; have HG7 := Lib.hid (grown_trans HG4.out (grown_trans F6.out.grown hg7)); clear hg7)
      | (go_at_call 12; refine (HNm.out _ HG7.out).mono ?_; rintro e w8 ⟨rfl, hg8⟩; have HG8 := Lib.hid (grown_trans HG7.out hg8); clear hg8))
    go_ret
    exact ⟨rfl, HG8.out⟩
  · obtain rfl : sg = 0 := by rw [hsg, if_neg hn]
    clear hsg h1 h2
    go_wp2_with (first
      | (at_builtin; refine wpList_appB (by rfl) (.tmp 42) (.tmp 43) 23 (by rfl) w4.heap.size 5 (.int .u8 0) 1 Tryd.underlying23 (by kernel_rfl) rfl (by decide) _ 1 (cellsL [0]) (by rfl) F0.out.own _ B (by rfl) (HB4.out.grown F0.out.grown) (HW4.out _) (by rw [← HL.out]; omega) F0.out.le ?_; intro v6 w6 ho6 hg6; have F6 := Lib.hid (F0.out.step (l' := [0] ++ B) ho6 hg6 (cellsL_append _ _).symm); clear ho6 hg6)
      | (go_at_call 9; refine (getErr_any A _ _ 4 _ (Bytes.own F6.out.own HBl2.out) HGm.out (HE.out _ (grown_trans HG4.out F6.out.grown))).mono ?_; rintro e w7 ⟨rfl, hg7⟩; have HG7 := Lib.hid (grown_trans HG4.out (grown_trans F6.out.grown hg7)); clear hg7)
      | (go_at_call 12; refine (HNm.out _ HG7.out).mono ?_; rintro e w8 ⟨rfl, hg8⟩; have HG8 := Lib.hid (grown_trans HG7.out hg8); clear hg8))
    go_ret
    exact ⟨rfl, HG8.out⟩
end Go.Proofs.YtbbkhdgkpacjgaaDoor
