import Derived.Test.YtihioekepflpiaaGreatDoorZb01
import Derived.Test.YtihioekepflpiaaGreatDoorZb19
import Derived.Test.YtihioekepflpiaaGreatDoorZb21
import Derived.Laws.OwnMore
set_option linter.unusedVariables false
set_option linter.unusedSimpArgs false
namespace Go.Proofs.YtihioekepflpiaaGreatDoor
open Go.RowKit
theorem wpList_app1s {P : Program} {w : World} {ops : Array Oper} {rest : List Oper} {o : Oper} {a : Act} {Q : Exit → Act → World → Prop} (hgd : o.guard = none) (s x : Operand) (t : TypeId)
    (ho : o.op = .call { callee := .builtin .append, args := #[s, x], argTypes := #[t, t] })
    (base : Nat) (e : TypeId) (z : Value) (bytes : Nat) (ht : P.underlying t = some (.slice e)) (hi : (P.info? e).map (fun i => (i.zero, i.size, i.bytes)) = some (some z, 1, bytes)) (hzs : z.cells.size = 1) (hby : bytes ≤ 64)
    (v : Value) (n : Nat) (xs : List Value) (hs : a.eval s = v) (hown : w.ownsRow base e 1 v n xs)
    (g k : Nat) (cs : Array Value) (t' : TypeId) (fr : Nat × Nat) (hx : a.eval x = .slice (some ⟨g, 0, none⟩) 1 1) (hg : w.heap[g]? = some (.cells cs t' fr)) (hc : cs = #[.int .u8 (k : Nat)]) (hk : k < 256)
    (h63 : n + 1 ≤ 1099511627776) (hbase : base ≤ w.heap.size)
    (h : ∀ v' w', w'.ownsRow base e 1 v' (n + 1) (xs ++ cellsL [k]) → w.grownBy w' v.ownBlock → (v'.ownBlock = v.ownBlock ∨ v'.ownBlock = some w.heap.size) → wpList P ops Q rest (a.put o.dst v') w') : wpList P ops Q (o :: rest) a w := by
  subst hc
  exact wpList_appB2 hgd s x t ho base e z bytes ht hi hzs hby v n xs hs hown _ [k] hx (Bytes.lit (l := [k]) hg (by simpa using hk)) (Whole0.some _ _ _) h63 hbase h
theorem unhex_odd : ∀ (l : List Nat) (a : Nat), l.length % 2 = 0 → unhex (l ++ [a]) = unhex l
  | [], a, _ => rfl
  | [_], _, h => by simp at h
  | x :: y :: r, a, h => by
    have h' : r.length % 2 = 0 := by simp only [List.length_cons] at h; omega
    rw [List.cons_append, List.cons_append, unhex, unhex_odd r a h', unhex]
/-- What is read of the first k figures. -/
def st (L : List Nat) (k : Nat) : List Nat := unhex (L.take k) ++ (if k % 2 = 1 then [16 * hv (L.getD (k - 1) 0)] else [])
theorem st_even (L : List Nat) (k : Nat) (hk : k < L.length) (h : k % 2 = 0) : st L (k + 1) = st L k ++ [16 * hv (L.getD k 0)] := by
  unfold st
  rw [if_pos (by omega), if_neg (by omega), take_one L k hk, unhex_odd _ _ (by rw [List.length_take]; omega), List.append_nil, Nat.add_sub_cancel]
theorem st_len (L : List Nat) (k : Nat) (hk : k ≤ L.length) : (st L k).length = (k + 1) / 2 := by
  unfold st
  rw [List.length_append, unhex_len, List.length_take, Nat.min_eq_left hk]
  split <;> simp <;> omega
theorem st_odd1 (L : List Nat) (k : Nat) (hk : k < L.length) (h : k % 2 = 1) : st L k = unhex (L.take (k - 1)) ++ [16 * hv (L.getD (k - 1) 0)] := by
  unfold st
  rw [if_pos h]
  have e : L.take k = L.take (k - 1) ++ [L.getD (k - 1) 0] := by
    have := take_one L (k - 1) (by omega)
    rwa [show k - 1 + 1 = k by omega] at this
  rw [e, unhex_odd _ _ (by rw [List.length_take]; omega)]
theorem st_odd2 (L : List Nat) (k : Nat) (hk : k < L.length) (h : k % 2 = 1) : st L (k + 1) = unhex (L.take (k - 1)) ++ [16 * hv (L.getD (k - 1) 0) + hv (L.getD k 0)] := by
  unfold st
  rw [if_neg (by omega), List.append_nil]
  have e : L.take (k + 1) = L.take (k - 1) ++ [L.getD (k - 1) 0, L.getD k 0] := by
    have := take_two L (k - 1) (by omega)
    rwa [show k - 1 + 2 = k + 1 by omega, show k - 1 + 1 = k by omega] at this
  rw [e, unhex_snoc _ _ _ (by rw [List.length_take]; omega)]
/-- What the document's Bytes answers. -/
def RbPost (w' : World) (l : List Nat) (e : Ending) : Prop :=
  (hexOk l = false ∧ e = .returned (.tuple #[.slice none 0 0, .bool false])) ∨
  (hexOk l = true ∧ ∃ a m c, e = .returned (.tuple #[.slice a m c, .bool (decide (l.length = 32))]) ∧ (l.length = 32 → m = 16 ∧ Bytes w' (.slice a m c) (unhex l)))
/-- A row of the call's own, one byte of it written over. -/
theorem FrW.put {w w' : World} {g m c : Nat} {a b : List Nat} {x : Nat} (h : FrW w w' (.slice (some ⟨g, 0, none⟩) m c) (a ++ [x] ++ b)) (hg : w.heap.size ≤ g) (y : Nat) : FrW w (w'.setCell ⟨g, a.length, none⟩ (.int .u8 (y : Int))) (.slice (some ⟨g, 0, none⟩) m c) (a ++ [y] ++ b) := by
  have hm : m = (a ++ [x] ++ b).length := by
    rcases h.own.2 with ⟨e, _⟩ | ⟨_, _, _, e, _⟩
    · cases e
    · cases e; rfl
  subst hm
  obtain ⟨h1, _⟩ := h.own.stored a.length (.int .u8 (y : Int))
  have e : (cellsL (a ++ [x] ++ b)).set a.length (.int .u8 (y : Int)) = cellsL (a ++ [y] ++ b) := by simp [cellsL]
  have hl : (a ++ [x] ++ b).length = (a ++ [y] ++ b).length := by simp
  refine ⟨grown_set h.grown (.inl hg) _, ?_⟩
  rw [e] at h1
  rw [← hl]
  exact h1
set_option maxRecDepth 100000 in
set_option maxHeartbeats 2000000 in
theorem refBytes_any (s : ByteArray) (w : World) (hs : s.size ≤ 1000000) :
    Calls Tryz.prog 97 #[.string s] w fun e w' => RbPost w' (strL s) e ∧ w.grownBy w' none := by
  obtain ⟨n, hn⟩ : ∃ n, n = s.size := ⟨_, rfl⟩
  have HN := Lib.hid hn
  have hnn : n ≤ 1000000 := by omega
  obtain ⟨L, hL⟩ : ∃ L, L = strL s := ⟨_, rfl⟩
  have HLn : Hid (L.length = n) := Lib.hid (by rw [hL, strL_len, hn])
  have HIx : Hid (∀ j : Nat, j < n → ∀ W, (Instr.index 9 (.string s) (.int .i64 (j : Int))).run Tryz.prog W = .ok (.int .u8 (L.getD j 0 : Nat)) W) := Lib.hid (fun j hj W => by
    have hjs : j < s.size := by have := HN.out; omega
    rw [run_index_string W _ s .i64 j Tryz.underlying9, dif_pos ⟨by omega, by omega⟩, hL, ← strL_getD s j hjs]
    rfl)
  have HLt : Hid (∀ j : Nat, L.getD j 0 < 256) := Lib.hid (fun j => getD_lt' (by rw [hL]; exact strL_lt s) j)
  rw [← hL]
  have F0 : Hid (FrW w (w.alloc (.cells #[] 5)) (.slice (some ⟨w.heap.size, 0, none⟩) 0 0) []) := Lib.hid ⟨World.grownBy_alloc _ _ _, ownsRow_lit (alloc_at w _) (Nat.le_refl _) (by simp)⟩
  have hsz : ((s.size : Nat) : Int) = (n : Int) := by rw [hn]
  clear hn hs hL
  go_enter Tryz.func97, Tryz.ntmps97
  go_wp2
  go_loopw [4, 5] (fun x i wr => ∃ k : Nat, k ≤ n ∧ i = .int .i64 k ∧ hexOk (L.take k) = true ∧ FrW w wr x (st L k)) (fun _ i _ => n - (intOf i).toNat)
  case atStart => exact ⟨0, Nat.zero_le _, rfl, rfl, F0.out⟩
  case round =>
    obtain ⟨k, hk, rfl, hok, hF⟩ := hrel
    have HOk := Lib.hid hok
    have HF := Lib.hid hF
    obtain ⟨xa, xg, xc, rfl, hxc, hxm, hxp, hxcell⟩ := ownsRow_form hF.own
    have hstl := st_len L k (by rw [HLn.out]; exact hk)
    clear hok hF
    by_cases hkn : k < n
    · obtain ⟨c, hc⟩ : ∃ c, c = L.getD k 0 := ⟨_, rfl⟩
      have hi := HIx.out k hkn
      have hc256 : c < 256 := by rw [hc]; exact HLt.out k
      have HT := Lib.hid (hexOk_take L k (by rw [HLn.out]; exact hkn))
      rw [← hc] at hi HT
      have hp2 : k % 2 = 0 ∨ k % 2 = 1 := by omega
      have HEv : Hid (k % 2 = 0 → st L (k + 1) = st L k ++ [16 * hv c]) := Lib.hid (fun h => by rw [hc]; exact st_even L k (by rw [HLn.out]; exact hkn) h)
      have HOd : Hid (k % 2 = 1 → ∃ a x, st L k = a ++ [x] ++ [] ∧ a.length = k / 2 ∧ x < 256 ∧ x % 16 = 0 ∧ st L (k + 1) = a ++ [x + hv c] ++ []) := Lib.hid (fun h => by
        refine ⟨unhex (L.take (k - 1)), 16 * hv (L.getD (k - 1) 0), by rw [st_odd1 L k (by rw [HLn.out]; exact hkn) h, List.append_nil], ?_, ?_, by omega, by rw [hc, st_odd2 L k (by rw [HLn.out]; exact hkn) h, List.append_nil]⟩
        · rw [unhex_len, List.length_take, HLn.out]; omega
        · have hok := HOk.out
          have e : L.take k = L.take (k - 1 + 1) := by rw [show k - 1 + 1 = k by omega]
          rw [e, hexOk_take L (k - 1) (by rw [HLn.out]; omega), Bool.and_eq_true, decide_eq_true_eq] at hok
          omega)
      clear hc hstl hxc hxm hxp hxcell
      by_cases hdig : 48 ≤ c ∧ c ≤ 57
      · obtain ⟨h1, h2⟩ := hdig
        have t1 : decide ((48 : Int) ≤ (c : Int)) = true := decide_eq_true (by omega)
        have t2 : decide ((c : Int) ≤ 57) = true := decide_eq_true (by omega)
        obtain ⟨hQ, hhv⟩ : ∃ h, h = hv c := ⟨_, rfl⟩
        have hq16 : hQ < 16 := by rw [hhv]; unfold hv; rw [if_pos ⟨h1, h2⟩]; omega
        have eh : (c : Int) - 48 = (hQ : Int) := by rw [hhv]; unfold hv; rw [if_pos ⟨h1, h2⟩]; omega
        have HOk2 : Hid (hexOk (L.take (k + 1)) = true) := Lib.hid (by rw [HT.out, HOk.out, ← hhv]; simp [hq16])
        clear h1 h2
        rcases hp2 with hp | hp
        · have HSt := Lib.hid (HEv.out hp)
          have ep : (k : Int) % 2 = 0 := by omega
          have hm : (16 * hQ : Nat) < 256 := by omega
          have hstm : (st L k).length ≤ 1000000 := by rw [st_len L k (by rw [HLn.out]; omega)]; omega
          have HHv := Lib.hid (show hv c = hQ from hhv.symm)
          clear HOd hp hhv
          go_wp2_with (at_builtin; refine wpList_app1s (by rfl) (.tmp 40) (.tmp 44) 58 (by rfl) w.heap.size 5 (.int .u8 0) 1 Tryz.underlying58 (by kernel_rfl) rfl (by decide) _ _ _ (by rfl) (HF.out.own.alloc _) _ (16 * hQ) _ _ _ (by rfl) (alloc_at _ _) (by simp) (by omega) (by omega) (by have := HF.out.le; rw [alloc_size]; omega) ?_; intro v2 w2 ho2 hg2 hs2; have F2 := Lib.hid ((HF.out.alloc _).step (l' := st L k ++ [16 * hQ]) ho2 hg2 (cellsL_append _ _).symm); clear ho2 hg2 hs2)
          go_roundw
          case rel => exact ⟨k + 1, by omega, by go_num, HOk2.out, by rw [HSt.out, HHv.out]; exact F2.out⟩
          case measure => simp [intOf]; omega
        · obtain ⟨a, x, ha1, ha2, hx, hx16, ha3⟩ := HOd.out hp
          have ep : (k : Int) % 2 = 1 := by omega
          have HF' := HF.out
          rw [ha1] at HF'
          have hal : (a ++ [x] ++ []).length = k / 2 + 1 := by simp [ha2]
          obtain ⟨xa2, xg, xc2, he, hxc, hxm, hxp, hxcell⟩ := ownsRow_form HF'.own
          rw [ha1]
          cases he
          obtain ⟨rfl, hxg, hxgl⟩ := hxp (by rw [hal]; omega)
          have hcx := hxcell (k / 2) (by rw [hal]; omega)
          rw [cellsL_at _ _ (by rw [hal]; omega)] at hcx
          have hgx : (a ++ [x] ++ []).getD (k / 2) 0 = x := by rw [← ha2]; simp
          rw [hgx] at hcx
          have hfx := HF'.own.frozenAt (k / 2)
          have hput := HF'.put hxg (x + hQ)
          rw [ha2] at hput
          have HPut := Lib.hid hput
          have HA3 := Lib.hid ha3
          have HHv := Lib.hid (show hv c = hQ from hhv.symm)
          have hk2 : (k : Int) / 2 = ((k / 2 : Nat) : Int) := by omega
          have hkl : k / 2 < (a ++ [x] ++ []).length := by rw [hal]; omega
          have hxq : x + hQ < 256 := by omega
          have hle : (a ++ [x] ++ []).length = (a ++ [x + hQ] ++ []).length := by simp
          have HLe := Lib.hid hle
          generalize (a ++ [x] ++ []).length = m at *
          clear HEv hp hhv ha1 ha2 ha3 hal hxc hxm hxp hxcell hgx hput HF' hle hx16
          generalize k / 2 = k2 at *
          go_wp2
          go_roundw
          case rel =>
            refine ⟨k + 1, by omega, by go_num, HOk2.out, ?_⟩
            have hp := HPut.out
            rw [show ((x + hQ : Nat) : Int) = (x : Int) + (hQ : Int) by omega] at hp
            rw [HA3.out, HHv.out]
            exact hp
          case measure => simp [intOf]; omega
      · by_cases hlet : 97 ≤ c ∧ c ≤ 102
        · obtain ⟨h1, h2⟩ := hlet
          have t1 : decide ((48 : Int) ≤ (c : Int)) = true := decide_eq_true (by omega)
          have t2 : decide ((c : Int) ≤ 57) = false := decide_eq_false (by omega)
          have t3 : decide ((97 : Int) ≤ (c : Int)) = true := decide_eq_true (by omega)
          have t4 : decide ((c : Int) ≤ 102) = true := decide_eq_true (by omega)
          obtain ⟨hQ, hhv⟩ : ∃ h, h = hv c := ⟨_, rfl⟩
          have hq16 : hQ < 16 := by rw [hhv]; unfold hv; rw [if_neg hdig, if_pos ⟨h1, h2⟩]; omega
          obtain ⟨q, hq⟩ : ∃ q, q = c - 97 := ⟨_, rfl⟩
          have hq6 : q < 6 := by omega
          have eh : (c : Int) - 97 = (q : Int) := by omega
          have eh2 : (q : Int) + 10 = (hQ : Int) := by rw [hhv]; unfold hv; rw [if_neg hdig, if_pos ⟨h1, h2⟩]; omega
          clear hq
          have HOk2 : Hid (hexOk (L.take (k + 1)) = true) := Lib.hid (by rw [HT.out, HOk.out, ← hhv]; simp [hq16])
          clear h1 h2 hdig
          rcases hp2 with hp | hp
          · have HSt := Lib.hid (HEv.out hp)
            have ep : (k : Int) % 2 = 0 := by omega
            have hm : (16 * hQ : Nat) < 256 := by omega
            have hstm : (st L k).length ≤ 1000000 := by rw [st_len L k (by rw [HLn.out]; omega)]; omega
            have HHv := Lib.hid (show hv c = hQ from hhv.symm)
            clear HOd hp hhv
            go_wp2_with (at_builtin; refine wpList_app1s (by rfl) (.tmp 40) (.tmp 44) 58 (by rfl) w.heap.size 5 (.int .u8 0) 1 Tryz.underlying58 (by kernel_rfl) rfl (by decide) _ _ _ (by rfl) (HF.out.own.alloc _) _ (16 * hQ) _ _ _ (by rfl) (alloc_at _ _) (by simp) (by omega) (by omega) (by have := HF.out.le; rw [alloc_size]; omega) ?_; intro v2 w2 ho2 hg2 hs2; have F2 := Lib.hid ((HF.out.alloc _).step (l' := st L k ++ [16 * hQ]) ho2 hg2 (cellsL_append _ _).symm); clear ho2 hg2 hs2)
            go_roundw
            case rel => exact ⟨k + 1, by omega, by go_num, HOk2.out, by rw [HSt.out, HHv.out]; exact F2.out⟩
            case measure => simp [intOf]; omega
          · obtain ⟨a, x, ha1, ha2, hx, hx16, ha3⟩ := HOd.out hp
            have ep : (k : Int) % 2 = 1 := by omega
            have HF' := HF.out
            rw [ha1] at HF'
            have hal : (a ++ [x] ++ []).length = k / 2 + 1 := by simp [ha2]
            obtain ⟨xa2, xg, xc2, he, hxc, hxm, hxp, hxcell⟩ := ownsRow_form HF'.own
            rw [ha1]
            cases he
            obtain ⟨rfl, hxg, hxgl⟩ := hxp (by rw [hal]; omega)
            have hcx := hxcell (k / 2) (by rw [hal]; omega)
            rw [cellsL_at _ _ (by rw [hal]; omega)] at hcx
            have hgx : (a ++ [x] ++ []).getD (k / 2) 0 = x := by rw [← ha2]; simp
            rw [hgx] at hcx
            have hfx := HF'.own.frozenAt (k / 2)
            have hput := HF'.put hxg (x + hQ)
            rw [ha2] at hput
            have HPut := Lib.hid hput
            have HA3 := Lib.hid ha3
            have HHv := Lib.hid (show hv c = hQ from hhv.symm)
            have hk2 : (k : Int) / 2 = ((k / 2 : Nat) : Int) := by omega
            have hkl : k / 2 < (a ++ [x] ++ []).length := by rw [hal]; omega
            have hxq : x + hQ < 256 := by omega
            have hle : (a ++ [x] ++ []).length = (a ++ [x + hQ] ++ []).length := by simp
            have HLe := Lib.hid hle
            generalize (a ++ [x] ++ []).length = m at *
            clear HEv hp hhv ha1 ha2 ha3 hal hxc hxm hxp hxcell hgx hput HF' hle hx16
            generalize k / 2 = k2 at *
            go_wp2
            go_roundw
            case rel =>
              refine ⟨k + 1, by omega, by go_num, HOk2.out, ?_⟩
              have hp := HPut.out
              rw [show ((x + hQ : Nat) : Int) = (x : Int) + (hQ : Int) by omega] at hp
              rw [HA3.out, HHv.out]
              exact hp
            case measure => simp [intOf]; omega
        · have HBad : Hid (hexOk L = false) := Lib.hid (hexOk_pre (k := k + 1) (by rw [HT.out]; unfold hv; rw [if_neg hdig, if_neg hlet]; simp))
          have HG := Lib.hid HF.out.grown
          clear HEv HOd HT
          by_cases h1 : c < 48
          · have t1 : decide ((48 : Int) ≤ (c : Int)) = false := decide_eq_false (by omega)
            have t3 : decide ((97 : Int) ≤ (c : Int)) = false := decide_eq_false (by omega)
            clear h1 hdig hlet hp2
            go_wp2
            go_ret2
            exact ⟨.inl ⟨HBad.out, rfl⟩, HG.out⟩
          · have t1 : decide ((48 : Int) ≤ (c : Int)) = true := decide_eq_true (by omega)
            have t2 : decide ((c : Int) ≤ 57) = false := decide_eq_false (by omega)
            by_cases h2 : c < 97
            · have t3 : decide ((97 : Int) ≤ (c : Int)) = false := decide_eq_false (by omega)
              clear h1 h2 hdig hlet hp2
              go_wp2
              go_ret2
              exact ⟨.inl ⟨HBad.out, rfl⟩, HG.out⟩
            · have t3 : decide ((97 : Int) ≤ (c : Int)) = true := decide_eq_true (by omega)
              have t4 : decide ((c : Int) ≤ 102) = false := decide_eq_false (by omega)
              clear h1 h2 hdig hlet hp2
              go_wp2
              go_ret2
              exact ⟨.inl ⟨HBad.out, rfl⟩, HG.out⟩
    · obtain rfl : k = n := by omega
      have htk : L.take k = L := List.take_of_length_le (by rw [HLn.out]; exact Nat.le_refl _)
      have hok := HOk.out
      rw [htk] at hok
      have HOk2 := Lib.hid hok
      have HFin : Hid (L.length = 32 → (st L k).length = 16 ∧ Bytes wr (.slice xa (st L k).length xc) (unhex L)) := Lib.hid (fun h32 => by
        have hk32 : k = 32 := by rw [← HLn.out]; exact h32
        have e : st L k = unhex L := by unfold st; rw [htk, if_neg (by omega), List.append_nil]
        refine ⟨by rw [hstl]; omega, ?_⟩
        have := Bytes.own HF.out.own (by rw [e]; exact unhex_lt L hok)
        rw [e] at this ⊢
        exact this)
      have HG := Lib.hid HF.out.grown
      have hdec : decide (L.length = 32) = ((k : Int) == 32) := by rw [HLn.out, Bool.eq_iff_iff]; simp; omega
      have HDe := Lib.hid hdec
      generalize (st L k).length = m at *
      clear hxcell hxp htk hok hdec hstl
      go_wp2
      go_ret2
      exact ⟨.inr ⟨HOk2.out, _, _, _, by rw [HDe.out]; rfl, HFin.out⟩, HG.out⟩
end Go.Proofs.YtihioekepflpiaaGreatDoor
