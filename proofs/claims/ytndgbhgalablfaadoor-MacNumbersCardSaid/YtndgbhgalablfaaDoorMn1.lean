/- Figures read: which texts are a key's number; strings.IndexByte in the figures. -/
import Derived.Test.YtndgbhgalablfaaDoorTx2
import Derived.Test.YtndgbhgalablfaaDoorTl3
import Derived.Lib.Bytealg
import Derived.Laws.Externs
namespace Go.Proofs.YtndgbhgalablfaaDoor
open Go.RowKit

def hv (c : Nat) : Nat := if 48 ≤ c ∧ c ≤ 57 then c - 48 else if 97 ≤ c ∧ c ≤ 102 then c - 87 else 16
def hexOk (l : List Nat) : Bool := l.all fun c => decide (hv c < 16)
def unhex : List Nat → List Nat
  | a :: b :: r => (16 * hv a + hv b) :: unhex r
  | _ => []
theorem hv_le (c : Nat) : hv c ≤ 16 := by
  unfold hv
  split
  · omega
  · split <;> omega
theorem fig_hv {c : Nat} (h : hv c < 16) : fig (hv c) = c := by
  unfold hv at h ⊢
  split at h
  · rename_i h1
    rw [if_pos h1]
    unfold fig
    rw [if_pos (by omega)]
    omega
  · rename_i h1
    rw [if_neg h1]
    split at h
    · rename_i h2
      rw [if_pos h2]
      unfold fig
      rw [if_neg (by omega)]
      omega
    · omega
theorem hv_fig {n : Nat} (h : n < 16) : hv (fig n) = n := by
  unfold fig
  split
  · unfold hv
    rw [if_pos (by omega)]
    omega
  · unfold hv
    rw [if_neg (by omega), if_pos (by omega)]
    omega
theorem unhex_len : ∀ l : List Nat, (unhex l).length = l.length / 2
  | [] => rfl
  | [_] => by simp [unhex]
  | a :: b :: r => by
    rw [unhex, List.length_cons, unhex_len r, List.length_cons, List.length_cons]
    omega
theorem hexL_unhex : ∀ l : List Nat, hexOk l = true → l.length % 2 = 0 → hexL (unhex l) = l
  | [], _, _ => rfl
  | [_], _, h => by simp at h
  | a :: b :: r, h, h2 => by
    simp only [hexOk, List.all_cons, Bool.and_eq_true, decide_eq_true_eq] at h
    obtain ⟨ha, hb, hr⟩ := h
    have h2' : r.length % 2 = 0 := by simp only [List.length_cons] at h2; omega
    rw [unhex, hexL, hexL_unhex r hr h2', show (16 * hv a + hv b) / 16 = hv a by omega, show (16 * hv a + hv b) % 16 = hv b by omega, fig_hv ha, fig_hv hb]
theorem unhex_hexL : ∀ b : List Nat, (∀ x ∈ b, x < 256) → unhex (hexL b) = b
  | [], _ => rfl
  | x :: r, h => by
    have hx := h x (by simp)
    rw [hexL, unhex, unhex_hexL r (fun y hy => h y (by simp [hy])), hv_fig (by omega), hv_fig (by omega), show 16 * (x / 16) + x % 16 = x by omega]
theorem hexOk_hexL : ∀ b : List Nat, (∀ x ∈ b, x < 256) → hexOk (hexL b) = true
  | [], _ => rfl
  | x :: r, h => by
    have hx := h x (by simp)
    have hr := hexOk_hexL r (fun y hy => h y (by simp [hy]))
    unfold hexOk at hr ⊢
    rw [hexL, List.all_cons, List.all_cons, hr, hv_fig (by omega), hv_fig (by omega)]
    simp
    omega
theorem unhex_lt : ∀ l : List Nat, hexOk l = true → ∀ x ∈ unhex l, x < 256
  | [], _ => by simp [unhex]
  | [_], _ => by simp [unhex]
  | a :: b :: r, h => by
    simp only [hexOk, List.all_cons, Bool.and_eq_true, decide_eq_true_eq] at h
    obtain ⟨ha, hb, hr⟩ := h
    intro x hx
    rw [unhex, List.mem_cons] at hx
    rcases hx with rfl | hx
    · omega
    · exact unhex_lt r hr x hx
theorem unhex_snoc : ∀ (l : List Nat) (a b : Nat), l.length % 2 = 0 → unhex (l ++ [a, b]) = unhex l ++ [16 * hv a + hv b]
  | [], a, b, _ => rfl
  | [_], _, _, h => by simp at h
  | x :: y :: r, a, b, h => by
    have h' : r.length % 2 = 0 := by simp only [List.length_cons] at h; omega
    rw [List.cons_append, List.cons_append, unhex, unhex_snoc r a b h', unhex]
    rfl
theorem take_one (l : List Nat) (k : Nat) (h : k < l.length) : l.take (k + 1) = l.take k ++ [l.getD k 0] := by
  have e : l.getD k 0 = l[k] := by rw [List.getD_eq_getElem?_getD, List.getElem?_eq_getElem h]; rfl
  rw [List.take_add_one, List.getElem?_eq_getElem h, e]
  rfl
theorem take_two (l : List Nat) (k : Nat) (h : k + 1 < l.length) : l.take (k + 2) = l.take k ++ [l.getD k 0, l.getD (k + 1) 0] := by
  rw [show k + 2 = (k + 1) + 1 by omega, take_one l (k + 1) h, take_one l k (by omega), List.append_assoc]
  rfl
theorem hexOk_take (l : List Nat) (k : Nat) (h : k < l.length) : hexOk (l.take (k + 1)) = (hexOk (l.take k) && decide (hv (l.getD k 0) < 16)) := by
  rw [List.take_add_one, List.getElem?_eq_getElem h, hexOk, List.all_append]
  simp [hexOk, List.getD_eq_getElem?_getD, List.getElem?_eq_getElem h]
theorem hexOk_pre {l : List Nat} {k : Nat} (h : hexOk (l.take k) = false) : hexOk l = false := by
  cases h2 : hexOk l
  · rfl
  · rw [← Bool.not_eq_true] at h
    refine absurd ?_ h
    unfold hexOk at h2 ⊢
    rw [List.all_eq_true] at h2 ⊢
    exact fun x hx => h2 x (List.mem_of_mem_take hx)

/-- Where a figure stands among the figures: -1 where it is none. -/
def ixv (c : Nat) : Int := if hv c < 16 then (hv c : Int) else -1
theorem ix_figs : ∀ c : Fin 256, Lib.indexByte figS.data.toList c.val.toUInt8 = ixv c.val := by decide +kernel

set_option maxRecDepth 100000 in
theorem index_any (c : Nat) (hc : c < 256) (w : World) :
    Calls Tryd.prog 39 #[.string figS, .int .u8 c] w fun e w' => e = .returned (.int .i64 (ixv c)) ∧ w' = w := by
  have h69 : (callFunc 69 #[.string figS, .int .u8 c]).run Tryd.prog w = .ok (.value (.int .i64 (ixv c))) w := by
    rw [@run_callFunc_extern Tryd.prog 69 _ Extern.BytealgIndexByte.indexByte Tryd.func69 (by kernel_rfl) (by kernel_rfl) (by kernel_rfl) (by kernel_rfl), Lib.run_indexByteString, Int.toNat_natCast, ix_figs ⟨c, hc⟩]
    rfl
  generalize ixv c = x at *
  generalize figS = fs at *
  go_enter Tryd.func39, Tryd.ntmps39
  go_wp2
  go_ret
  exact ⟨rfl, rfl⟩
end Go.Proofs.YtndgbhgalablfaaDoor
