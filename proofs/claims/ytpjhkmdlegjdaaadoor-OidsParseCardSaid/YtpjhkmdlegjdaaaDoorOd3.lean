/- The walk of the document's Split. -/
import Derived.Test.YtpjhkmdlegjdaaaDoorSt1
import Derived.Test.YtpjhkmdlegjdaaaDoorOd8
import Derived.Test.YtpjhkmdlegjdaaaDoorChecked
import Derived.WalkKit
import Derived.Lib.Hide
namespace Go.Proofs.YtpjhkmdlegjdaaaDoor
open Go.RowKit

set_option maxRecDepth 100000 in
set_option maxHeartbeats 1000000 in
theorem refSplit_any (s : ByteArray) (w : World) (hs : s.size ≤ 1099511620000) :
    Calls Tryd.prog 25 #[.string s] w fun e w' => ∃ v, e = .returned v ∧ FrS w w' v (Od.split (strL s)) := by
  obtain ⟨L, hL⟩ : ∃ L, L = strL s := ⟨_, rfl⟩
  obtain ⟨n, hn⟩ : ∃ n, n = s.size := ⟨_, rfl⟩
  have hLn : L.length = n := by rw [hL, strL_len, hn]
  have HIx : Hid (∀ j : Nat, j < n → ∀ W, (Instr.index 9 (.string s) (.int .i64 (j : Int))).run Tryd.prog W = .ok (.int .u8 (L.getD j 0 : Nat)) W) := Lib.hid (fun j hj W => by
    have hjs : j < s.size := by omega
    have h2 : (0 : Int) ≤ (j : Int) ∧ (j : Int) < (s.size : Int) := ⟨by omega, by omega⟩
    have e := strL_getD s j hjs
    rw [← hL] at e
    rw [run_index_string W _ s .i64 j Tryd.underlying9, dif_pos h2, ← e]
    rfl)
  have HEx : Hid (∀ i j, s.extract i j = strOf (seg L i j)) := Lib.hid (fun i j => by rw [hL]; exact extract_seg s i j)
  have hsz : ((s.size : Nat) : Int) = n := by rw [hn]
  have HN := Lib.hid hn
  have HLn := Lib.hid hLn
  rw [← hL]
  have HSp0 : Hid (Od.split L = [] ++ Od.splitA (seg L 0 0) (L.drop 0)) := Lib.hid (by rw [seg_self]; rfl)
  have HStep : Hid (∀ k last, last ≤ k → k < n → Od.splitA (seg L last k) (L.drop k) = if L.getD k 0 = 46 then seg L last k :: Od.splitA (seg L (k + 1) (k + 1)) (L.drop (k + 1)) else Od.splitA (seg L last (k + 1)) (L.drop (k + 1))) := Lib.hid (fun k last h1 h2 => by
    have hk : k < L.length := by omega
    rw [List.drop_eq_getElem_cons hk, Od.splitA, seg_self, seg_snoc L last k h1 hk]
    have : L.getD k 0 = L[k] := by rw [List.getD_eq_getElem?_getD, List.getElem?_eq_getElem hk]; rfl
    rw [this])
  have HEnd : Hid (∀ last, Od.splitA (seg L last n) (L.drop n) = [seg L last n]) := Lib.hid (fun last => by
    rw [List.drop_eq_nil_of_le (by omega), Od.splitA])
  have F0 : Hid (FrS w (w.alloc (.cells #[] 9)) (.slice (some ⟨w.heap.size, 0, none⟩) 0 0) []) := Lib.hid ⟨World.grownBy_alloc _ _ _, ownsRow_lit (alloc_at w _) (Nat.le_refl _) (by simp)⟩
  generalize Od.split L = SP at *
  have hn40 : n ≤ 1099511620000 := by omega
  clear hLn hn hL hs
  go_enter Tryd.func25, Tryd.ntmps25
  go_wp2
  go_loopw [3, 4, 5] (fun out last i wr => ∃ (k la : Nat) (ps : List (List Nat)), k ≤ n ∧ la ≤ k ∧ ps.length ≤ k ∧ last = .int .i64 la ∧ i = .int .i64 k ∧ FrS w wr out ps ∧ SP = ps ++ Od.splitA (seg L la k) (L.drop k)) (fun _ _ i _ => n - (intOf i).toNat)
  case atStart => exact ⟨0, 0, [], by omega, by omega, by simp, rfl, rfl, F0.out, HSp0.out⟩
  case round =>
    obtain ⟨k, la, ps, hk, hla, hps, rfl, rfl, hF, hSP⟩ := hrel
    have HF := Lib.hid hF
    have HS := Lib.hid hSP
    clear hF hSP
    by_cases hkn : k < n
    · have hix := HIx.out k hkn
      have hst := HStep.out k la hla hkn
      have HSt := Lib.hid hst
      clear hst
      generalize L.getD k 0 = c at *
      by_cases hc : c = 46
      · subst hc
        have HSt2 : Hid (Od.splitA (seg L la k) (L.drop k) = seg L la k :: Od.splitA (seg L (k + 1) (k + 1)) (L.drop (k + 1))) := Lib.hid (by rw [HSt.out, if_pos rfl])
        go_wp2_with (at_builtin; refine wpList_app1 (by rfl) (.tmp 17) (.tmp 22) 51 (by rfl) w.heap.size 9 (.string ⟨#[]⟩) 16 Tryd.underlying51 (by kernel_rfl) rfl (by decide) _ ps.length (cellsS ps) (by rfl) (HF.out.own.alloc _) ⟨_, 0, none⟩ (.string (s.extract la k)) (by rfl) (cell_blk (alloc_at _ _) 0 rfl) rfl (by omega) (by have := HF.out.le; rw [alloc_size]; omega) ?_; intro v' w3 ho3 hg3; have F3 := Lib.hid ((HF.out.alloc _).step (l' := ps ++ [seg L la k]) ho3 hg3 (by rw [HEx.out, cellsS_append]; rfl)); clear ho3 hg3)
        go_roundw
        case rel => exact ⟨k + 1, k + 1, ps ++ [seg L la k], by omega, by omega, by rw [List.length_append]; simp; omega, by go_num, by go_num, F3.out, by rw [HS.out, HSt2.out, List.append_assoc]; rfl⟩
        case measure => simp [intOf]; omega
      · have HSt2 : Hid (Od.splitA (seg L la k) (L.drop k) = Od.splitA (seg L la (k + 1)) (L.drop (k + 1))) := Lib.hid (by rw [HSt.out, if_neg hc])
        have hcb : ((c : Int) == 46) = false := by simp; omega
        go_wp2
        go_roundw
        case rel => exact ⟨k + 1, la, ps, by omega, by omega, by omega, rfl, by go_num, HF.out, by rw [HS.out, HSt2.out]⟩
        case measure => simp [intOf]; omega
    · obtain rfl : k = n := by omega
      have HEs : Hid (s.extract la s.size = strOf (seg L la k)) := Lib.hid (by rw [HEx.out, HN.out])
      go_wp2_with (at_builtin; refine wpList_app1 (by rfl) (.tmp 26) (.tmp 30) 51 (by rfl) w.heap.size 9 (.string ⟨#[]⟩) 16 Tryd.underlying51 (by kernel_rfl) rfl (by decide) _ ps.length (cellsS ps) (by rfl) (HF.out.own.alloc _) ⟨_, 0, none⟩ (.string (s.extract la s.size)) (by rfl) (cell_blk (alloc_at _ _) 0 rfl) rfl (by omega) (by have := HF.out.le; rw [alloc_size]; omega) ?_; intro v' w3 ho3 hg3; have F3 := Lib.hid ((HF.out.alloc _).step (l' := ps ++ [seg L la k]) ho3 hg3 (by rw [HEs.out, cellsS_append]; rfl)); clear ho3 hg3)
      go_ret
      exact ⟨_, rfl, by rw [HS.out, HEnd.out]; exact F3.out⟩
end Go.Proofs.YtpjhkmdlegjdaaaDoor
