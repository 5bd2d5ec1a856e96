/- Figures read: which texts are a key's number; strings.IndexByte in the figures. The walk of mac's Bytes. -/
import Derived.Test.YtndgbhgalablfaaDoorTx2
import Derived.Test.YtndgbhgalablfaaDoorTl3
import Derived.Lib.Bytealg
import Derived.Laws.Externs
import Derived.Test.YtndgbhgalablfaaDoorSub
import Derived.Laws.Tables
namespace Go.Proofs.YtndgbhgalablfaaDoor
open Go.RowKit

def hv (c : Nat) : Nat := if 48 ≤ c ∧ c ≤ 57 then c - 48 else if 97 ≤ c ∧ c ≤ 102 then c - 87 else 16
def hexOk (l : List Nat) : Bool := l.all fun c => decide (hv c < 16)
def unhex : List Nat → List Nat
  | a :: b :: r => (16 * hv a + hv b) :: unhex r
  | _ => []
theorem hv_le (c : Nat) : hv c ≤ 16 := by
  unfold hv
  split
  · omega
  · split <;> omega
theorem fig_hv {c : Nat} (h : hv c < 16) : fig (hv c) = c := by
  unfold hv at h ⊢
  split at h
  · rename_i h1
    rw [if_pos h1]
    unfold fig
    rw [if_pos (by omega)]
    omega
  · rename_i h1
    rw [if_neg h1]
    split at h
    · rename_i h2
      rw [if_pos h2]
      unfold fig
      rw [if_neg (by omega)]
      omega
    · omega
theorem hv_fig {n : Nat} (h : n < 16) : hv (fig n) = n := by
  unfold fig
  split
  · unfold hv
    rw [if_pos (by omega)]
    omega
  · unfold hv
    rw [if_neg (by omega), if_pos (by omega)]
    omega
theorem unhex_len : ∀ l : List Nat, (unhex l).length = l.length / 2
  | [] => rfl
  | [_] => by simp [unhex]
  | a :: b :: r => by
    rw [unhex, List.length_cons, unhex_len r, List.length_cons, List.length_cons]
    omega
theorem hexL_unhex : ∀ l : List Nat, hexOk l = true → l.length % 2 = 0 → hexL (unhex l) = l
  | [], _, _ => rfl
  | [_], _, h => by simp at h
  | a :: b :: r, h, h2 => by
    simp only [hexOk, List.all_cons, Bool.and_eq_true, decide_eq_true_eq] at h
    obtain ⟨ha, hb, hr⟩ := h
    have h2' : r.length % 2 = 0 := by simp only [List.length_cons] at h2; omega
    rw [unhex, hexL, hexL_unhex r hr h2', show (16 * hv a + hv b) / 16 = hv a by omega, show (16 * hv a + hv b) % 16 = hv b by omega, fig_hv ha, fig_hv hb]
theorem unhex_hexL : ∀ b : List Nat, (∀ x ∈ b, x < 256) → unhex (hexL b) = b
  | [], _ => rfl
  | x :: r, h => by
    have hx := h x (by simp)
    rw [hexL, unhex, unhex_hexL r (fun y hy => h y (by simp [hy])), hv_fig (by omega), hv_fig (by omega), show 16 * (x / 16) + x % 16 = x by omega]
theorem hexOk_hexL : ∀ b : List Nat, (∀ x ∈ b, x < 256) → hexOk (hexL b) = true
  | [], _ => rfl
  | x :: r, h => by
    have hx := h x (by simp)
    have hr := hexOk_hexL r (fun y hy => h y (by simp [hy]))
    unfold hexOk at hr ⊢
    rw [hexL, List.all_cons, List.all_cons, hr, hv_fig (by omega), hv_fig (by omega)]
    simp
    omega
theorem unhex_lt : ∀ l : List Nat, hexOk l = true → ∀ x ∈ unhex l, x < 256
  | [], _ => by simp [unhex]
  | [_], _ => by simp [unhex]
  | a :: b :: r, h => by
    simp only [hexOk, List.all_cons, Bool.and_eq_true, decide_eq_true_eq] at h
    obtain ⟨ha, hb, hr⟩ := h
    intro x hx
    rw [unhex, List.mem_cons] at hx
    rcases hx with rfl | hx
    · omega
    · exact unhex_lt r hr x hx
theorem unhex_snoc : ∀ (l : List Nat) (a b : Nat), l.length % 2 = 0 → unhex (l ++ [a, b]) = unhex l ++ [16 * hv a + hv b]
  | [], a, b, _ => rfl
  | [_], _, _, h => by simp at h
  | x :: y :: r, a, b, h => by
    have h' : r.length % 2 = 0 := by simp only [List.length_cons] at h; omega
    rw [List.cons_append, List.cons_append, unhex, unhex_snoc r a b h', unhex]
    rfl
theorem take_one (l : List Nat) (k : Nat) (h : k < l.length) : l.take (k + 1) = l.take k ++ [l.getD k 0] := by
  have e : l.getD k 0 = l[k] := by rw [List.getD_eq_getElem?_getD, List.getElem?_eq_getElem h]; rfl
  rw [List.take_add_one, List.getElem?_eq_getElem h, e]
  rfl
theorem take_two (l : List Nat) (k : Nat) (h : k + 1 < l.length) : l.take (k + 2) = l.take k ++ [l.getD k 0, l.getD (k + 1) 0] := by
  rw [show k + 2 = (k + 1) + 1 by omega, take_one l (k + 1) h, take_one l k (by omega), List.append_assoc]
  rfl
theorem hexOk_take (l : List Nat) (k : Nat) (h : k < l.length) : hexOk (l.take (k + 1)) = (hexOk (l.take k) && decide (hv (l.getD k 0) < 16)) := by
  rw [List.take_add_one, List.getElem?_eq_getElem h, hexOk, List.all_append]
  simp [hexOk, List.getD_eq_getElem?_getD, List.getElem?_eq_getElem h]
theorem hexOk_pre {l : List Nat} {k : Nat} (h : hexOk (l.take k) = false) : hexOk l = false := by
  cases h2 : hexOk l
  · rfl
  · rw [← Bool.not_eq_true] at h
    refine absurd ?_ h
    unfold hexOk at h2 ⊢
    rw [List.all_eq_true] at h2 ⊢
    exact fun x hx => h2 x (List.mem_of_mem_take hx)

/-- Where a figure stands among the figures: -1 where it is none. -/
def ixv (c : Nat) : Int := if hv c < 16 then (hv c : Int) else -1
theorem ix_figs : ∀ c : Fin 256, Lib.indexByte figS.data.toList c.val.toUInt8 = ixv c.val := by decide +kernel

set_option maxRecDepth 100000 in
theorem index_any (c : Nat) (hc : c < 256) (w : World) :
    Calls Tryd.prog 39 #[.string figS, .int .u8 c] w fun e w' => e = .returned (.int .i64 (ixv c)) ∧ w' = w := by
  have h69 : (callFunc 69 #[.string figS, .int .u8 c]).run Tryd.prog w = .ok (.value (.int .i64 (ixv c))) w := by
    rw [@run_callFunc_extern Tryd.prog 69 _ Extern.BytealgIndexByte.indexByte Tryd.func69 (by kernel_rfl) (by kernel_rfl) (by kernel_rfl) (by kernel_rfl), Lib.run_indexByteString, Int.toNat_natCast, ix_figs ⟨c, hc⟩]
    rfl
  generalize ixv c = x at *
  generalize figS = fs at *
  go_enter Tryd.func39, Tryd.ntmps39
  go_wp2
  go_ret
  exact ⟨rfl, rfl⟩
end Go.Proofs.YtndgbhgalablfaaDoor
namespace Go.Proofs.YtndgbhgalablfaaDoor
open Go.RowKit

/-- What mac.Bytes answers. -/
def ByPost (A : Nat → Addr) (w' : World) (l : List Nat) (e : Ending) : Prop :=
  if l.length = 32 ∧ hexOk l = true then ∃ a c, e = .returned (.tuple #[.slice a 16 c, .nilIface]) ∧ Bytes w' (.slice a 16 c) (unhex l) ∧ Whole0 (.slice a 16 c)
  else e = .returned (.tuple #[.slice none 0 0, errV A 4])

theorem or_hex (h l : Nat) (hh : h < 16) (hl : l < 16) : bits .or .i64 ((h : Int) * 16) (l : Int) = ((16 * h + l : Nat) : Int) := by
  have e : (h : Int) * 16 = ((16 * h : Nat) : Int) := by rw [Nat.mul_comm]; simp
  rw [e]
  have hw : ∀ n : Nat, n < 9223372036854775808 → (BitVec.ofInt 64 (n : Int)).toNat = n := fun n hn => by
    rw [BitVec.ofInt_natCast, BitVec.toNat_ofNat]; exact Nat.mod_eq_of_lt (by omega)
  show IntKind.i64.wrap ((BitVec.ofInt 64 ((16 * h : Nat) : Int) ||| BitVec.ofInt 64 (l : Int)).toNat : Int) = _
  rw [BitVec.toNat_or, hw _ (by omega), hw _ (by omega)]
  have e2 : 16 * h ||| l = 16 * h + l := (Nat.two_pow_add_eq_or_of_lt (i := 4) (b := l) (by omega) h).symm
  rw [e2]
  simp only [IntKind.wrap, IntKind.bits, IntKind.signed]
  simp
  omega

def zeros16 : Array Value := bytesV (List.replicate 16 0)
theorem make16 (W : World) : (Instr.makeSlice 22 (.int .i64 16) (.int .i64 16)).run Tryd.prog W = .ok (.slice (some ⟨W.heap.size, 0, none⟩) 16 16) (W.alloc (.cells zeros16 5)) := by
  obtain ⟨iT, i1, i2, i3, i4⟩ := info_parts (P := Tryd.prog) (e := 5) (z := .int .u8 0) (size := 1) (bytes := 1) (by kernel_rfl)
  rw [run_makeSlice W 22 5 iT (.int .u8 0) Tryd.underlying22 i1 i2 .i64 .i64 16 16 (by decide) (by decide) (by rw [i3]; decide) (by rw [i4]; decide) (by decide), i3]
  have e : madeCells (Value.int IntKind.u8 0).cells (Int.toNat 16 * 1) = zeros16 := by kernel_rfl
  rw [e]
  rfl
/-- The world in Bytes' loop. -/
structure KeyW (w wr : World) (done : List Nat) : Prop where
  grown : w.grownBy wr none
  blk : wr.heap[w.heap.size]? = some (.cells (bytesV (done ++ List.replicate (16 - done.length) 0)) 5 (0, 0))
theorem KeyW.set {w wr : World} {done : List Nat} (h : KeyW w wr done) (hd : done.length < 16) (x : Nat) : KeyW w (wr.setCell ⟨w.heap.size, done.length, none⟩ (.int .u8 (x : Int))) (done ++ [x]) :=
  ⟨grown_set h.grown (.inl (Nat.le_refl _)) _, by rw [setCell_heap h.blk, bytesV_set 16 done x hd]⟩

set_option maxRecDepth 100000 in
set_option maxHeartbeats 2000000 in
theorem bytes_any (A : Nat → Addr) (s : ByteArray) (w : World) (hs : s.size ≤ 1099511620000) (hE : AllErrs w A) :
    Calls Tryd.prog 15 #[.string s] w fun e w' => ByPost A w' (strL s) e ∧ w.grownBy w' none := by
  have HED : Hid (∀ W, w.grownBy W none → W.cell? ⟨4, 0, none⟩ = some (errV A 4)) := Lib.hid (fun W hW => by
    have e4 := errs_at (hE.grown hW) 4 (by decide)
    simp only [errVars, List.getD_cons_zero, List.getD_cons_succ, Nat.add_one_sub_one] at e4
    exact e4)
  obtain ⟨n, hn⟩ : ∃ n, n = s.size := ⟨_, rfl⟩
  have HN := Lib.hid hn
  have HLn : Hid ((strL s).length = n) := Lib.hid (by rw [strL_len, hn])
  have hnn : n ≤ 1099511620000 := by omega
  clear hE hn hs
  by_cases h32 : n = 32
  · subst h32
    have hl : ((s.size : Nat) : Int) = 32 := by have := HN.out; omega
    have HK0 : Hid (KeyW w (w.alloc (.cells zeros16 5)) []) := Lib.hid ⟨World.grownBy_alloc _ _ _, alloc_at _ _⟩
    have hmk := make16 w
    obtain ⟨L, hL⟩ : ∃ L, L = strL s := ⟨_, rfl⟩
    have HIx : Hid (∀ j : Nat, j < 32 → ∀ W, (Instr.index 9 (.string s) (.int .i64 (j : Int))).run Tryd.prog W = .ok (.int .u8 (L.getD j 0 : Nat)) W) := Lib.hid (fun j hj W => by
      have hjs : j < s.size := by have := HN.out; omega
      rw [run_index_string W _ s .i64 j Tryd.underlying9, dif_pos ⟨by omega, by omega⟩, hL, ← strL_getD s j hjs]
      rfl)
    have HLt : Hid (∀ j : Nat, L.getD j 0 < 256) := Lib.hid (fun j => getD_lt' (by rw [hL]; exact strL_lt s) j)
    rw [← hL] at HLn ⊢
    have HXb : Hid (∀ e w' j, j ≤ 32 → hexOk (L.take j) = false → e = Ending.returned (.tuple #[.slice none 0 0, errV A 4]) → ByPost A w' L e) := Lib.hid (fun e w' j _ hj h => by unfold ByPost; rw [if_neg (fun h => by rw [hexOk_pre hj] at h; cases h.2)]; exact h)
    have HXg : Hid (∀ e w', hexOk L = true → (∃ a c, e = .returned (.tuple #[.slice a 16 c, .nilIface]) ∧ Bytes w' (.slice a 16 c) (unhex L) ∧ Whole0 (.slice a 16 c)) → ByPost A w' L e) := Lib.hid (fun e w' hh h => by unfold ByPost; rw [if_pos ⟨HLn.out, hh⟩]; exact h)
    clear hL
    go_enter Tryd.func15, Tryd.ntmps15
    go_wp2
    clear hmk hl
    go_loopw [15] (fun i wr => ∃ k : Nat, k ≤ 16 ∧ i = .int .i64 k ∧ hexOk (L.take (2 * k)) = true ∧ KeyW w wr (unhex (L.take (2 * k)))) (fun i _ => 16 - (intOf i).toNat)
    case atStart => exact ⟨0, by omega, rfl, rfl, HK0.out⟩
    case round =>
      obtain ⟨k, hk, rfl, hok, hK⟩ := hrel
      have HOk := Lib.hid hok
      have HKw := Lib.hid hK
      clear hok hK
      by_cases hk16 : k < 16
      · obtain ⟨c1, hc1⟩ : ∃ c, c = L.getD (2 * k) 0 := ⟨_, rfl⟩
        obtain ⟨c2, hc2⟩ : ∃ c, c = L.getD (2 * k + 1) 0 := ⟨_, rfl⟩
        have hi1 := HIx.out (2 * k) (by omega)
        have hi2 := HIx.out (2 * k + 1) (by omega)
        rw [← hc1] at hi1
        rw [← hc2] at hi2
        have e1 : ((2 * k : Nat) : Int) = 2 * (k : Int) := by omega
        have e2 : ((2 * k + 1 : Nat) : Int) = 2 * (k : Int) + 1 := by omega
        rw [e1] at hi1
        rw [e2] at hi2
        have I1 := Lib.hid (fun W => index_any c1 (by rw [hc1]; exact HLt.out _) W)
        have I2 := Lib.hid (fun W => index_any c2 (by rw [hc2]; exact HLt.out _) W)
        have HT1 := Lib.hid (hexOk_take L (2 * k) (by rw [HLn.out]; omega))
        have HT2 := Lib.hid (hexOk_take L (2 * k + 1) (by rw [HLn.out]; omega))
        have HU : Hid (unhex (L.take (2 * (k + 1))) = unhex (L.take (2 * k)) ++ [16 * hv c1 + hv c2]) := Lib.hid (by
          rw [show 2 * (k + 1) = 2 * k + 2 by omega, take_two L (2 * k) (by rw [HLn.out]; omega), unhex_snoc _ _ _ (by rw [List.length_take, HLn.out]; omega), hc1, hc2])
        rw [← hc1] at HT1
        rw [← hc2] at HT2
        clear e1 e2 hc1 hc2
        by_cases h1 : hv c1 < 16
        · by_cases h2 : hv c2 < 16
          · have x1 : ixv c1 = (hv c1 : Int) := by rw [ixv, if_pos h1]
            have x2 : ixv c2 = (hv c2 : Int) := by rw [ixv, if_pos h2]
            rw [x1] at I1
            rw [x2] at I2
            clear x1 x2
            generalize hv c1 = a at *
            generalize hv c2 = b at *
            have p1 : decide ((a : Int) < 0) = false := decide_eq_false (by omega)
            have p2 : decide ((b : Int) < 0) = false := decide_eq_false (by omega)
            go_wp2
            go_quiet ((go_at_call 39; first | exact Calls.quiet_of_same (I1.out _) | exact Calls.quiet_of_same (I2.out _)))
            have hul : (unhex (L.take (2 * k))).length = k := by rw [unhex_len, List.length_take, HLn.out]; omega
            have HKn := Lib.hid (show KeyW w (wr.drewN nq) (unhex (L.take (2 * k))) from ⟨grown_drewN HKw.out.grown _, HKw.out.blk⟩)
            have hset := HKn.out.set (by rw [hul]; exact hk16) (16 * a + b)
            rw [hul] at hset
            have HSet := Lib.hid hset
            have hz := cell_blk HKw.out.blk k (by have := bytesV_zero 16 (unhex (L.take (2 * k))) (by rw [hul]; exact hk16); rwa [hul] at this ⊢)
            have hf := free_blk HKw.out.blk k
            have hor := or_hex a b h1 h2
            have HOr := Lib.hid hor
            have hwu : ((16 * a + b : Nat) : Int) % 256 = ((16 * a + b : Nat) : Int) := by omega
            obtain ⟨y, hy⟩ : ∃ y, y = 16 * a + b := ⟨_, rfl⟩
            have hy256 : y < 256 := by omega
            rw [← hy] at HSet HU hor hwu
            have HOk2 : Hid (hexOk (L.take (2 * (k + 1))) = true) := Lib.hid (by
              rw [show 2 * (k + 1) = 2 * k + 1 + 1 by omega, HT2.out, HT1.out, HOk.out]
              simp [h1, h2])
            clear hy hset hul HOr hwu
            go_wp2
            go_roundw
            case rel => exact ⟨k + 1, by omega, by go_num, HOk2.out, by rw [HU.out]; exact HSet.out⟩
            case measure => simp [intOf]; omega
          · have x1 : ixv c1 = (hv c1 : Int) := by rw [ixv, if_pos h1]
            have x2 : ixv c2 = -1 := by rw [ixv, if_neg h2]
            rw [x1] at I1
            rw [x2] at I2
            have HBad : Hid (hexOk (L.take (2 * k + 1 + 1)) = false) := Lib.hid (by
              rw [HT2.out]
              simp [h2])
            clear x1 x2
            generalize hv c1 = a at *
            have p1 : decide ((a : Int) < 0) = false := decide_eq_false (by omega)
            have eF := HED.out wr HKw.out.grown
            go_wp2
            go_quiet ((go_at_call 39; first | exact Calls.quiet_of_same (I1.out _) | exact Calls.quiet_of_same (I2.out _)))
            go_wp2
            go_quiet (fail)
            go_wp2
            go_ret2
            exact ⟨HXb.out _ _ _ (by omega) HBad.out rfl, grown_drewN (grown_drewN HKw.out.grown _) _⟩
        · have x1 : ixv c1 = -1 := by rw [ixv, if_neg h1]
          rw [x1] at I1
          have HBad : Hid (hexOk (L.take (2 * k + 1)) = false) := Lib.hid (by
            rw [HT1.out]
            simp [h1])
          clear x1
          generalize ixv c2 = b at *
          have eF := HED.out wr HKw.out.grown
          go_wp2
          go_quiet ((go_at_call 39; first | exact Calls.quiet_of_same (I1.out _) | exact Calls.quiet_of_same (I2.out _)))
          go_wp2
          go_quiet (fail)
          go_wp2
          go_ret2
          exact ⟨HXb.out _ _ _ (by omega) HBad.out rfl, grown_drewN (grown_drewN HKw.out.grown _) _⟩
      · obtain rfl : k = 16 := by omega
        have htk : L.take (2 * 16) = L := List.take_of_length_le (by rw [HLn.out]; decide)
        have hok := HOk.out
        have hK := HKw.out.blk
        rw [htk] at hok hK
        have hul : (unhex L).length = 16 := by rw [unhex_len, HLn.out]
        have HBy : Hid (Bytes wr (.slice (some ⟨w.heap.size, 0, none⟩) 16 16) (unhex L)) := Lib.hid (by
          have := Bytes.lit (w := wr) (g := w.heap.size) (l := unhex L) (t := 5) (fr := (0, 0)) (by rw [hul] at hK; simpa [bytesV, cellsL] using hK) (unhex_lt L hok)
          rwa [hul] at this)
        have HOk3 := Lib.hid hok
        clear hok hK hul htk
        go_wp2
        go_ret2
        exact ⟨HXg.out _ _ HOk3.out ⟨_, _, rfl, HBy.out, Whole0.some _ _ _⟩, HKw.out.grown⟩
  · have HX : Hid (∀ e w', e = Ending.returned (.tuple #[.slice none 0 0, errV A 4]) → ByPost A w' (strL s) e) := Lib.hid (fun e w' h => by unfold ByPost; rw [if_neg (by rw [HLn.out]; exact fun h => h32 h.1)]; exact h)
    have d1 : (((s.size : Nat) : Int) != 32) = true := by have := HN.out; simp; omega
    have eF := HED.out w (grown_refl _ _)
    go_enter Tryd.func15, Tryd.ntmps15
    go_wp2
    go_quiet (fail)
    go_wp2
    go_ret2
    exact ⟨HX.out _ _ rfl, grown_drewN (grown_refl _ _) _⟩
end Go.Proofs.YtndgbhgalablfaaDoor
