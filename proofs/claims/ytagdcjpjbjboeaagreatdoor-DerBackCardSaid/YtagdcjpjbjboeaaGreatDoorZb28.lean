import Derived.Test.YtagdcjpjbjboeaaGreatDoorZb00
import Derived.Test.YtagdcjpjbjboeaaGreatDoorZb03
import Derived.Test.YtagdcjpjbjboeaaGreatDoorZb09
import Derived.Test.YtagdcjpjbjboeaaGreatDoorZb12
import Derived.Test.YtagdcjpjbjboeaaGreatDoorZb13
import Derived.Test.YtagdcjpjbjboeaaGreatDoorZb14
import Derived.Test.YtagdcjpjbjboeaaGreatDoorZb22
import Derived.Test.YtagdcjpjbjboeaaGreatDoorZb24
import Derived.WalkKit
import Derived.BigQuiet
import Derived.Test.YtagdcjpjbjboeaaGreatDoorChecked
import Derived.Lib.Hide
namespace Go.Proofs.YtagdcjpjbjboeaaGreatDoor
open Go.RowKit
/-- A number's figures; none of one below 0. -/
def serL (n : Int) : List Nat := if n < 0 then [] else Wh.dig n.toNat
set_option maxRecDepth 100000 in
theorem serial_any (n : Int) (h2 : n < 9223372036854775808) (tp : TypeId) (p : Value) (w : World) (hF : Figs w tp p) :
    Calls Tryz.prog 213 #[.int .i64 n] w fun e w' => e = .returned (.string (strOf (serL n))) ∧ w.grownBy w' none := by
  by_cases hn : n < 0
  · have HX : Hid (strOf (serL n) = ⟨#[]⟩) := Lib.hid (by rw [serL, if_pos hn]; rfl)
    go_enter Tryz.func213, Tryz.ntmps213
    go_wp2
    go_ret
    rw [HX.out]
    exact ⟨rfl, grown_refl _ _⟩
  · obtain ⟨u, rfl⟩ : ∃ u : Nat, n = u := ⟨n.toNat, by omega⟩
    have HX : Hid (strOf (serL (u : Int)) = strOf (Wh.dig u)) := Lib.hid (by rw [serL, if_neg hn, Int.toNat_natCast])
    have HI := Lib.hid (itoa_any u (by omega) tp p w hF)
    rw [HX.out]
    generalize strOf (Wh.dig u) = t at *
    clear hF
    go_enter Tryz.func213, Tryz.ntmps213
    go_wp2_with (go_at_call 235; refine HI.out.mono ?_; rintro e w1 ⟨rfl, hg1⟩; have HG1 := Lib.hid hg1; clear hg1)
    go_ret
    exact ⟨rfl, HG1.out⟩
/-- What Figures answers: the number, the error's. -/
def figRes (L : List Nat) : Int × Nat := if Wh.figs L = true then ((Wh.pval L : Nat), 0) else (0, 4)
theorem figs_parts {L : List Nat} (h : Wh.figs L = true) : 1 ≤ L.length ∧ L.length ≤ 18 ∧ L.all Wh.fig = true ∧ Wh.dig (Wh.pval L) = L := by
  obtain ⟨⟨h1, h2⟩, h3, h4⟩ := (Wh.figs_iff L).1 h
  exact ⟨h1, h2, h3, h4⟩
theorem figRes_none {s : ByteArray} (h : Lib.atoi s.data.toList = none) : figRes (strL s) = (0, 4) := by
  rw [figRes]
  split
  · rename_i hf
    obtain ⟨h1, _, h3, _⟩ := figs_parts hf
    rw [atoi_figs s h3 (by intro e; rw [e] at h1; simp at h1)] at h
    cases h
  · rfl
theorem figRes_some {s : ByteArray} {n : Int} (hl : s.size ≤ 18) (h : Lib.atoi s.data.toList = some n) : figRes (strL s) = if serL n = strL s then (n, 0) else (0, 4) := by
  have hb := Lib.atoi_bound h (by rw [Array.length_toList]; exact hl)
  by_cases he : serL n = strL s
  · rw [if_pos he]
    by_cases hn : n < 0
    · rw [serL, if_pos hn] at he
      have : s.data.toList = [] := by
        have := he.symm
        simpa [strL] using this
      rw [this] at h
      cases h
    · rw [serL, if_neg hn] at he
      obtain ⟨k1, k2⟩ := Wh.figs_dig (n := n.toNat) (by omega)
      rw [he] at k1 k2
      rw [figRes, if_pos k1, k2, Int.toNat_of_nonneg (by omega)]
  · rw [if_neg he, figRes]
    split
    · rename_i hf
      obtain ⟨h1, _, h3, h4⟩ := figs_parts hf
      rw [atoi_figs s h3 (by intro e; rw [e] at h1; simp at h1)] at h
      obtain rfl := Option.some.inj h
      exact absurd (by rw [serL, if_neg (by omega), Int.toNat_natCast]; exact h4) he
    · rfl
theorem figRes_long {s : ByteArray} (h : 18 < s.size) : figRes (strL s) = (0, 4) := by
  rw [figRes]
  split
  · rename_i hf
    have := (figs_parts hf).2.1
    rw [strL_len] at this
    omega
  · rfl
theorem serL_lt (n : Int) (h : n < 100000000000000000000) : ∀ x ∈ serL n, x < 256 := by
  unfold serL
  split
  · simp
  · intro x hx
    have := List.all_eq_true.1 (Wh.dig_fig n.toNat (by omega)) x hx
    simp [Wh.fig] at this
    omega
set_option maxRecDepth 100000 in
set_option maxHeartbeats 1000000 in
theorem figures_any (A : Nat → Addr) (s : ByteArray) (tp : TypeId) (p : Value) (w : World) (hF : Figs w tp p) (hE : RFErrs w A) :
    Calls Tryz.prog 261 #[.string s] w fun e w' => e = .returned (.tuple #[.int .i64 (figRes (strL s)).1, errOf A (figRes (strL s)).2]) ∧ w.grownBy w' none := by
  have HEF := Lib.hid (fun W hW => (hE.grown (w' := W) hW).form)
  have HF := Lib.hid (fun W hW => hF.grown (w' := W) hW)
  have e4 : errOf A 4 = errV A 4 := rfl
  have e0 : errOf A 0 = .nilIface := rfl
  by_cases hl : 18 < s.size
  · rw [figRes_long hl]
    have eF := HEF.out w (grown_refl _ _)
    clear hF hE
    go_enter Tryz.func261, Tryz.ntmps261
    go_wp2
    go_quiet (fail)
    go_wp2
    go_ret2
    exact ⟨rfl, grown_drewN (grown_refl _ _) _⟩
  · cases ha : Lib.atoi s.data.toList with
    | none =>
      rw [figRes_none ha]
      have HA := Lib.hid (atoi_none s (by omega) ha tp p w hF)
      clear hF hE ha
      go_enter Tryz.func261, Tryz.ntmps261
      go_wp2_with (go_at_call 273; refine HA.out.mono ?_; rintro e w1 ⟨N, rfl, hg1⟩; have HG1 := Lib.hid hg1; have eF := HEF.out w1 hg1; clear hg1)
      go_quiet (fail)
      go_wp2
      go_ret2
      exact ⟨rfl, grown_drewN HG1.out _⟩
    | some n =>
      have hb := Lib.atoi_bound ha (by rw [Array.length_toList]; exact Nat.not_lt.1 hl)
      rw [figRes_some (by omega) ha]
      have HA := Lib.hid (atoi_any s n (by omega) ha w)
      have HS := Lib.hid (fun W hW => serial_any n (by omega) tp p W (HF.out W hW))
      have hsb : ((strOf (serL n)).toList == s.toList) = decide (serL n = strL s) := by
        rw [str_beq, strL_strOf (serL_lt n (by omega))]
      generalize strOf (serL n) = t at *
      by_cases he : serL n = strL s
      · rw [if_pos he]
        rw [decide_eq_true he] at hsb
        have hne : (t.toList != s.toList) = false := by rw [bne, hsb]; rfl
        clear hF hE ha he hb
        go_enter Tryz.func261, Tryz.ntmps261
        go_wp2_with (first
          | (go_at_call 273; refine HA.out.mono ?_; rintro e w1 ⟨rfl, hg1⟩; have HG1 := Lib.hid hg1; clear hg1)
          | (go_at_call 213; refine (HS.out _ HG1.out).mono ?_; rintro e w2 ⟨rfl, hg2⟩; have HG2 := Lib.hid (grown_trans HG1.out hg2); clear hg2))
        go_ret2
        exact ⟨rfl, HG2.out⟩
      · rw [if_neg he]
        rw [decide_eq_false he] at hsb
        have hne : (t.toList != s.toList) = true := by rw [bne, hsb]; rfl
        clear hF hE ha he hb
        go_enter Tryz.func261, Tryz.ntmps261
        go_wp2_with (first
          | (go_at_call 273; refine HA.out.mono ?_; rintro e w1 ⟨rfl, hg1⟩; have HG1 := Lib.hid hg1; clear hg1)
          | (go_at_call 213; refine (HS.out _ HG1.out).mono ?_; rintro e w2 ⟨rfl, hg2⟩; have HG2 := Lib.hid (grown_trans HG1.out hg2); have eF := HEF.out w2 (grown_trans HG1.out hg2); clear hg2))
        go_quiet (fail)
        go_wp2
        go_ret2
        exact ⟨rfl, grown_drewN HG2.out _⟩
end Go.Proofs.YtagdcjpjbjboeaaGreatDoor
namespace Go.Proofs.YtagdcjpjbjboeaaGreatDoor
open Go.RowKit
theorem digF_len : ∀ (f n : Nat), (Wh.digF f n).length ≤ f + 1
  | 0, n => by simp [Wh.digF]
  | f + 1, n => by
    rw [Wh.digF]
    split
    · simp
    · have := digF_len f (n / 10)
      simp
      omega
theorem dig_len (n : Nat) : (Wh.dig n).length ≤ 21 := digF_len 20 n
end Go.Proofs.YtagdcjpjbjboeaaGreatDoor
namespace Go.Proofs.YtagdcjpjbjboeaaGreatDoor
open Go.RowKit
namespace Od
theorem text_len : ∀ l : List Int, (text l).length ≤ 22 * l.length
  | [] => by simp [text]
  | [n] => by have := dig_len n.toNat; simp [text]; omega
  | x :: y :: r => by
    have h := text_len (y :: r)
    have := dig_len x.toNat
    rw [text]
    · simp only [List.length_append, List.length_cons] at *
      omega
    · simp
end Od
end Go.Proofs.YtagdcjpjbjboeaaGreatDoor
namespace Go.Proofs.YtagdcjpjbjboeaaGreatDoor
open Go.RowKit
def PtSpec (A : Nat → Addr) (w : World) : Prop := ∀ (s : ByteArray) (W : World), s.size ≤ 100000 → w.grownBy W none → Calls Tryz.prog 148 #[.string s] W fun e w' => W.grownBy w' none ∧ match Od.parse (strL s) with
  | .ok l => ∃ a c, e = .returned (.tuple #[.slice a (Od.put l).length c, .nilIface]) ∧ Bytes w' (.slice a (Od.put l).length c) (Od.put l) ∧ Whole0 (.slice a (Od.put l).length c)
  | .error k => ∃ a c, e = .returned (.tuple #[.slice a 0 c, errV A k]) ∧ Bytes w' (.slice a 0 c) []
end Go.Proofs.YtagdcjpjbjboeaaGreatDoor
namespace Go.Proofs.YtagdcjpjbjboeaaGreatDoor
open Go.RowKit
theorem rest_lt : ∀ (l : List Int), ∀ x ∈ Od.rest l, x < 256
  | [], x, h => by simp [Od.rest] at h
  | n :: r, x, h => by
    rw [Od.rest] at h
    rcases List.mem_append.1 h with h | h
    · exact Od.septUpto_lt _ 6 x h
    · exact rest_lt r x h
/-- oids.Text answers as the document says. -/
def TxSpec (A : Nat → Addr) (w : World) : Prop := ∀ (v : Value) (l : List Int) (W : World), w.grownBy W none → Ints W v l → l.length ≤ 100000 → Calls Tryz.prog 176 #[v] W fun e w' => W.grownBy w' none ∧ e = .returned (if Od.right l = true then .tuple #[.string (strOf (Od.text l)), .nilIface] else .tuple #[.string ⟨#[]⟩, errV A 1])
theorem dig_lt (u : Nat) (h : u < 100000000000000000000) : ∀ x ∈ Wh.dig u, x < 256 := fun x hx => by
  have := List.all_eq_true.1 (Wh.dig_fig u h) x hx
  simp [Wh.fig] at this
  omega
theorem text_lt : ∀ (l : List Int), (∀ n ∈ l, 0 ≤ n ∧ n ≤ 2147483647) → ∀ x ∈ Od.text l, x < 256
  | [], _, x, h => by simp [Od.text] at h
  | [n], hl, x, h => by
    have := (hl n (by simp)).2
    exact dig_lt n.toNat (by omega) x h
  | n :: m :: r, hl, x, h => by
    have h1 := (hl n (by simp)).2
    have e : Od.text (n :: m :: r) = Wh.dig n.toNat ++ 46 :: Od.text (m :: r) := rfl
    rw [e] at h
    rcases List.mem_append.1 h with h | h
    · exact dig_lt n.toNat (by omega) x h
    · rcases List.mem_cons.1 h with rfl | h
      · decide
      · exact text_lt (m :: r) (fun z hz => hl z (by simp [hz])) x h
end Go.Proofs.YtagdcjpjbjboeaaGreatDoor
