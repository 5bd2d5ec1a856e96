import Derived.Test.YtihioekepflpiaaGreatDoorZb01
import Derived.Test.YtihioekepflpiaaGreatDoorZb02
import Derived.Test.YtihioekepflpiaaGreatDoorZb03
import Derived.Test.YtihioekepflpiaaGreatDoorChecked
import Derived.Laws.Externs
import Derived.WalkKit
import Derived.Lib.Hide
import Derived.BigQuiet
set_option linter.unusedVariables false
set_option linter.unusedSimpArgs false
namespace Go.Proofs.YtihioekepflpiaaGreatDoor
open Go.RowKit
namespace Bc
/-- The model's order of bytes. -/
def cmp (a b : List Nat) : Int := Extern.BytealgCompare.cmp (strOf a) (strOf b)
theorem strOf_at (l : List Nat) (i : Nat) (h : i < l.length) : (strOf l)[i]! = UInt8.ofNat (l.getD i 0) := by
  have hs : i < (strOf l).size := by rw [strOf_size]; exact h
  rw [getElem!_pos (strOf l) i hs, List.getD_eq_getElem?_getD, List.getElem?_eq_getElem h]
  show ((l.map UInt8.ofNat).toArray)[i]'(by simpa using h) = _
  rw [List.getElem_toArray, List.getElem_map]
  rfl
theorem ne_at {x y : Nat} (hx : x < 256) (hy : y < 256) : (UInt8.ofNat x != UInt8.ofNat y) = decide (x ≠ y) := by
  rw [Bool.eq_iff_iff]
  simp only [bne_iff_ne, ne_eq, decide_eq_true_eq]
  refine not_congr ⟨fun h => ?_, fun h => by rw [h]⟩
  have := congrArg UInt8.toNat h
  rw [UInt8.toNat_ofNat', UInt8.toNat_ofNat', Nat.mod_eq_of_lt hx, Nat.mod_eq_of_lt hy] at this
  exact this
theorem lt_at {x y : Nat} (hx : x < 256) (hy : y < 256) : (UInt8.ofNat x < UInt8.ofNat y) ↔ x < y := by
  rw [UInt8.lt_iff_toNat_lt, UInt8.toNat_ofNat', UInt8.toNat_ofNat', Nat.mod_eq_of_lt hx, Nat.mod_eq_of_lt hy]
/-- Where lists first differ tells their order. -/
theorem lex_at : ∀ (a b : List Nat) (i : Nat), (∀ j, j < i → a.getD j 0 = b.getD j 0) → i ≤ a.length → i ≤ b.length →
    (i < a.length → i < b.length → a.getD i 0 ≠ b.getD i 0 → Cal.lex a b = decide (a.getD i 0 < b.getD i 0)) ∧
    (i = a.length ∨ i = b.length → Cal.lex a b = decide (a.length < b.length))
  | [], [], i, _, ha, _ => ⟨fun h => absurd h (by simp), fun _ => by simp [Cal.lex]⟩
  | [], y :: s, i, _, ha, _ => ⟨fun h => absurd h (by simp), fun _ => by simp [Cal.lex]⟩
  | x :: r, [], i, _, _, hb => ⟨fun _ h => absurd h (by simp), fun _ => by simp [Cal.lex]⟩
  | x :: r, y :: s, 0, _, _, _ => ⟨fun _ _ h => by
      simp only [List.getD_cons_zero] at h ⊢
      rw [Cal.lex, if_neg h], fun h => by simp at h⟩
  | x :: r, y :: s, i + 1, hj, ha, hb => by
    have e : x = y := by simpa using hj 0 (by omega)
    subst e
    have ih := lex_at r s i (fun j h => by simpa using hj (j + 1) (by omega)) (by simpa using ha) (by simpa using hb)
    simp only [List.getD_cons_succ, List.length_cons] at ih ⊢
    rw [Cal.lex, if_pos rfl]
    refine ⟨fun h1 h2 h3 => ih.1 (by omega) (by omega) h3, fun h => ?_⟩
    rw [ih.2 (by omega)]
    simp
/-- The order of the model's bytes is that of lists. -/
theorem cmp_lex {a b : List Nat} (ha : ∀ x ∈ a, x < 256) (hb : ∀ x ∈ b, x < 256) : decide (cmp a b < 0) = Cal.lex a b := by
  have ga : ∀ i, a.getD i 0 < 256 := fun i => by
    rw [List.getD_eq_getElem?_getD]
    cases h : a[i]? with
    | none => exact Nat.zero_lt_succ _
    | some x => exact ha x (List.mem_of_getElem? h)
  have gb : ∀ i, b.getD i 0 < 256 := fun i => by
    rw [List.getD_eq_getElem?_getD]
    cases h : b[i]? with
    | none => exact Nat.zero_lt_succ _
    | some x => exact hb x (List.mem_of_getElem? h)
  unfold cmp Extern.BytealgCompare.cmp
  rw [strOf_size, strOf_size]
  have pe : ∀ i, i < min a.length b.length → ((strOf a)[i]! != (strOf b)[i]!) = decide (a.getD i 0 ≠ b.getD i 0) := fun i h => by
    rw [strOf_at a i (by omega), strOf_at b i (by omega), ne_at (ga i) (gb i)]
  cases hf : (List.range (min a.length b.length)).find? fun i => (strOf a)[i]! != (strOf b)[i]! with
  | none =>
    rw [List.find?_range_eq_none] at hf
    have hj : ∀ j, j < min a.length b.length → a.getD j 0 = b.getD j 0 := fun j h => by
      have := hf j h
      rw [pe j h] at this
      simpa using this
    have hl := (lex_at a b (min a.length b.length) hj (by omega) (by omega)).2 (by omega)
    rw [hl]
    show decide ((if a.length < b.length then (-1 : Int) else if a.length > b.length then 1 else 0) < 0) = _
    by_cases h1 : a.length < b.length
    · rw [if_pos h1]; simp [h1]
    · rw [if_neg h1]; split <;> simp [h1]
  | some i =>
    rw [List.find?_range_eq_some] at hf
    obtain ⟨h1, h2, h3⟩ := hf
    have hi : i < min a.length b.length := List.mem_range.1 h2
    rw [pe i hi] at h1
    have hj : ∀ j, j < i → a.getD j 0 = b.getD j 0 := fun j h => by
      have := h3 j h
      rw [pe j (by omega)] at this
      simpa using this
    have hl := (lex_at a b i hj (by omega) (by omega)).1 (by omega) (by omega) (by simpa using h1)
    rw [hl]
    show decide ((if (strOf a)[i]! < (strOf b)[i]! then (-1 : Int) else 1) < 0) = _
    rw [strOf_at a i (by omega), strOf_at b i (by omega)]
    by_cases h : a.getD i 0 < b.getD i 0
    · rw [if_pos ((lt_at (ga i) (gb i)).2 h)]; simp only [h]; decide
    · rw [if_neg (fun h2 => h ((lt_at (ga i) (gb i)).1 h2))]; simp only [h]; decide
end Bc
theorem run_loadBytes2 {P : Program} {w : World} {sb : Nat} (l : List Nat) : ∀ (so : Nat) (acc : List Nat), (∀ j, j < l.length → w.cell? ⟨sb, so + j, none⟩ = some (.int .u8 (l.getD j 0 : Nat))) → (∀ x ∈ l, x < 256) →
    (Extern.Bytes.loadBytes ⟨sb, so, none⟩ l.length (strOf acc)).run P w = .ok (strOf (acc ++ l)) w := by
  induction l with
  | nil => intro so acc _ _; rw [List.append_nil]; rfl
  | cons x r ih =>
    intro so acc h hlt
    have hx := hlt x (by simp)
    have h0 := h 0 (by simp)
    simp only [List.getD_cons_zero, Nat.add_zero] at h0
    rw [List.length_cons, Extern.Bytes.loadBytes]
    simp only [Sem.run_bind, run_load, h0, Result.andThen]
    rw [addr_addO]
    have e : (strOf acc).push (x : Int).toNat.toUInt8 = strOf (acc ++ [x]) := by
      rw [Int.toNat_natCast]
      simp [strOf, ByteArray.push]
    rw [e]
    have := ih (so + 1) (acc ++ [x]) (fun j hj => by have := h (j + 1) (by simp; omega); rw [Nat.add_assoc, Nat.add_comm 1 j, this]; simp) (fun y hy => hlt y (by simp [hy]))
    rw [this, List.append_assoc]
    rfl
theorem run_bytesOf2 {P : Program} {w : World} {v : Value} {l : List Nat} (hB : Bytes w v l) (h0 : Whole0 v) : (Extern.Bytes.bytesOf v).run P w = .ok (strOf l) w := by
  obtain ⟨hlt, a, sb, so, c, rfl, hc, ha, hcell⟩ := hB
  match a with
  | none =>
    obtain ⟨hn, _⟩ := h0 _ _ rfl
    obtain rfl := List.eq_nil_of_length_eq_zero hn
    rfl
  | some ad =>
    match l, ha, hcell, hlt, hc, h0 with
    | [], _, _, _, _, _ => rfl
    | x :: r, ha, hcell, hlt, _, _ =>
      obtain ⟨e, _⟩ := ha (by simp)
      obtain rfl := Option.some.inj e
      have := run_loadBytes2 (P := P) (w := w) (sb := sb) (x :: r) so [] hcell hlt
      rw [List.nil_append] at this
      exact this
set_option maxRecDepth 100000 in
theorem compareB_any (v u : Value) (A B : List Nat) (w : World) (hA : Bytes w v A) (hB : Bytes w u B) (hv : Whole0 v) (hu : Whole0 u) :
    Calls Tryz.prog 107 #[v, u] w fun e w' => e = .returned (.int .i64 (Bc.cmp A B)) ∧ w' = w := by
  have h77 : (callFunc 120 #[v, u]).run Tryz.prog w = .ok (.value (.int .i64 (Bc.cmp A B))) w := by
    rw [@run_callFunc_extern Tryz.prog 120 _ Extern.BytealgCompare.compare Tryz.func120 (by kernel_rfl) (by kernel_rfl) (by kernel_rfl) (by kernel_rfl)]
    have e : Extern.BytealgCompare.compare #[v, u] = (do pure (goInt (Extern.BytealgCompare.cmp (← Extern.Bytes.bytesOf v) (← Extern.Bytes.bytesOf u)))) := rfl
    rw [e]
    simp only [Sem.run_bind, run_bytesOf2 hA hv, run_bytesOf2 hB hu, Result.andThen]
    rfl
  obtain ⟨_, va, _, _, vc, rfl, _⟩ := hA
  obtain ⟨_, ua, _, _, uc, rfl, _⟩ := hB
  generalize Bc.cmp A B = c at *
  go_enter Tryz.func107, Tryz.ntmps107
  go_wp2
  go_ret
  exact ⟨rfl, rfl⟩
namespace Pt
end Pt
end Go.Proofs.YtihioekepflpiaaGreatDoor
namespace Go.Proofs.YtihioekepflpiaaGreatDoor
open Go.RowKit
theorem retB7 {a b : Bool} (h : a = b) : Ending.returned (.bool a) = .returned (.bool b) := by rw [h]
namespace Pt
theorem label_false {l : List Nat} (k : Nat) (hk : k < l.length) (h : okc (l.getD k 0) = false) : label l = false := by
  have : l.all okc = false := by
    rw [List.all_eq_false]
    refine ⟨l.getD k 0, ?_, by rw [h]; decide⟩
    rw [List.getD_eq_getElem?_getD, List.getElem?_eq_getElem hk]; exact List.getElem_mem hk
  rw [label, this, Bool.and_false, Bool.and_false, Bool.and_false]
theorem label_true {l : List Nat} (h1 : 1 ≤ l.length ∧ l.length ≤ 24) (h2 : l.getD 0 0 ≠ 45) (h3 : l.getD (l.length - 1) 0 ≠ 45) (h : ∀ k, k < l.length → okc (l.getD k 0) = true) : label l = true := by
  have : l.all okc = true := by
    rw [List.all_eq_true]
    intro x hx
    obtain ⟨k, hk, rfl⟩ := List.getElem_of_mem hx
    have := h k hk
    rw [List.getD_eq_getElem?_getD, List.getElem?_eq_getElem hk] at this
    exact this
  rw [label, this, decide_eq_true h1, decide_eq_true h2, decide_eq_true h3]; rfl
theorem label_head {l : List Nat} (h : ¬ (1 ≤ l.length ∧ l.length ≤ 24) ∨ l.getD 0 0 = 45 ∨ l.getD (l.length - 1) 0 = 45) : label l = false := by
  rcases h with h | h | h
  · rw [label, decide_eq_false h, Bool.false_and]
  · rw [label, decide_eq_false (show ¬ l.getD 0 0 ≠ 45 from fun e => e h), Bool.false_and, Bool.and_false]
  · rw [label, decide_eq_false (show ¬ l.getD (l.length - 1) 0 ≠ 45 from fun e => e h), Bool.false_and, Bool.and_false, Bool.and_false]
theorem okc_iff (c : Nat) : okc c = true ↔ (97 ≤ c ∧ c ≤ 122) ∨ (48 ≤ c ∧ c ≤ 57) ∨ c = 45 := by simp [okc]
end Pt
set_option maxRecDepth 100000 in
set_option maxHeartbeats 2000000 in
theorem refLabel_any (s : ByteArray) (hs : s.size ≤ 1000000) (w : World) : Calls Tryz.prog 71 #[.string s] w fun e w' => e = .returned (.bool (Pt.label (strL s))) ∧ w' = w := by
  obtain ⟨L, hL⟩ : ∃ L, L = strL s := ⟨_, rfl⟩
  obtain ⟨n, hn⟩ : ∃ n, n = s.size := ⟨_, rfl⟩
  have hLn : L.length = n := by rw [hL, strL_len, hn]
  have h8 : ∀ x ∈ L, x < 256 := by rw [hL]; exact strL_lt s
  have HIx : Hid (∀ j : Nat, j < n → ∀ W, (Instr.index 9 (.string s) (.int .i64 (j : Int))).run Tryz.prog W = .ok (.int .u8 (L.getD j 0 : Nat)) W) := Lib.hid (fun j hj W => by
    have hjs : j < s.size := by omega
    have h2 : (0 : Int) ≤ (j : Int) ∧ (j : Int) < (s.size : Int) := ⟨by omega, by omega⟩
    have e : (s[j]'hjs).toNat = L.getD j 0 := by rw [hL]; exact strL_getD s j hjs
    rw [run_index_string W _ s .i64 j Tryz.underlying9, dif_pos h2, ← e]
    rfl)
  have hsz : (s.size : Int) = (n : Int) := by rw [hn]
  have H8 : Hid (∀ j, L.getD j 0 < 256) := Lib.hid (fun j => by
    rcases Nat.lt_or_ge j L.length with h | h
    · rw [List.getD_eq_getElem?_getD, List.getElem?_eq_getElem h]; exact h8 _ (List.getElem_mem h)
    · rw [List.getD_eq_getElem?_getD, List.getElem?_eq_none h]; decide)
  have HH : Hid (¬ (1 ≤ n ∧ n ≤ 24) ∨ L.getD 0 0 = 45 ∨ L.getD (n - 1) 0 = 45 → Pt.label L = false) := Lib.hid (fun h => Pt.label_head (by rw [hLn]; exact h))
  have HF : Hid (∀ k, k < n → Pt.okc (L.getD k 0) = false → Pt.label L = false) := Lib.hid (fun k hk h => Pt.label_false k (by omega) h)
  have HT : Hid (1 ≤ n ∧ n ≤ 24 → L.getD 0 0 ≠ 45 → L.getD (n - 1) 0 ≠ 45 → (∀ k, k < n → Pt.okc (L.getD k 0) = true) → Pt.label L = true) := Lib.hid (fun h1 h2 h3 h => Pt.label_true (by rw [hLn]; exact h1) h2 (by rw [hLn]; exact h3) (fun k hk => h k (by omega)))
  rw [← hL]
  obtain ⟨R, hR⟩ : ∃ R, R = Pt.label L := ⟨_, rfl⟩
  rw [← hR] at HH HF HT ⊢
  clear hR hL h8 hLn
  rcases Nat.lt_or_ge n 1 with n1 | n1
  · have HFF := Lib.hid (HH.out (.inl (by omega)))
    go_enter Tryz.func71, Tryz.ntmps71
    go_wp2
    go_ret
    exact ⟨retB7 HFF.out.symm, rfl⟩
  · rcases Nat.lt_or_ge 24 n with n2 | n2
    · have HFF := Lib.hid (HH.out (.inl (by omega)))
      go_enter Tryz.func71, Tryz.ntmps71
      go_wp2
      go_ret
      exact ⟨retB7 HFF.out.symm, rfl⟩
    · have i0 : (Instr.index 9 (.string s) (.int .i64 0)).run Tryz.prog w = .ok (.int .u8 ((L.getD 0 0 : Nat) : Int)) w := HIx.out 0 (by omega) w
      have b0 := H8.out 0
      by_cases q0 : L.getD 0 0 = 45
      · have HFF := Lib.hid (HH.out (.inr (.inl q0)))
        rw [q0, show ((45 : Nat) : Int) = 45 from rfl] at i0
        go_enter Tryz.func71, Tryz.ntmps71
        go_wp2
        go_ret
        exact ⟨retB7 HFF.out.symm, rfl⟩
      · have i1 := HIx.out (n - 1) (by omega) w
        rw [show (((n - 1 : Nat) : Nat) : Int) = (n : Int) - 1 by omega] at i1
        have hne0 : (((L.getD 0 0 : Nat) : Int) == 45) = false := beq_eq_false_iff_ne.2 (by omega)
        by_cases q1 : L.getD (n - 1) 0 = 45
        · have HFF := Lib.hid (HH.out (.inr (.inr q1)))
          rw [q1, show ((45 : Nat) : Int) = 45 from rfl] at i1
          generalize L.getD 0 0 = x0 at *
          clear q0
          go_enter Tryz.func71, Tryz.ntmps71
          go_wp2
          go_ret
          exact ⟨retB7 HFF.out.symm, rfl⟩
        · have hne1 : (((L.getD (n - 1) 0 : Nat) : Int) == 45) = false := beq_eq_false_iff_ne.2 (by omega)
          have b1 := H8.out (n - 1)
          have HTT := Lib.hid (HT.out ⟨n1, n2⟩ q0 q1)
          generalize L.getD 0 0 = x0 at *
          generalize L.getD (n - 1) 0 = x1 at *
          clear q0 q1
          go_enter Tryz.func71, Tryz.ntmps71
          go_wp2
          clear i0 i1 b0 b1
          go_loopw [3] (fun i wr => ∃ k : Nat, k ≤ n ∧ i = .int .i64 (k : Int) ∧ wr = w ∧ ∀ j, j < k → Pt.okc (L.getD j 0) = true) (fun i _ => n - (intOf i).toNat)
          case atStart => exact ⟨0, Nat.zero_le _, rfl, rfl, fun j hj => absurd hj (Nat.not_lt_zero _)⟩
          case round =>
            obtain ⟨k, hk, rfl, rfl, hall⟩ := hrel
            have HAll := Lib.hid hall
            clear hall
            by_cases hkn : k < n
            · have ix := HIx.out k hkn wr
              have hb := H8.out k
              have HFk := Lib.hid (HF.out k hkn)
              generalize hx : L.getD k 0 = x at *
              have HX := Lib.hid hx
              clear hx
              have HFb : Hid (¬ ((97 ≤ x ∧ x ≤ 122) ∨ (48 ≤ x ∧ x ≤ 57) ∨ x = 45) → R = false) := Lib.hid (fun h => HFk.out (by rw [← Bool.not_eq_true, Pt.okc_iff]; exact h))
              have HNx : Hid ((97 ≤ x ∧ x ≤ 122) ∨ (48 ≤ x ∧ x ≤ 57) ∨ x = 45 → ∀ j, j < k + 1 → Pt.okc (L.getD j 0) = true) := Lib.hid (fun h j hj => by
                rcases Nat.lt_or_ge j k with h2 | h2
                · exact HAll.out j h2
                · obtain rfl : j = k := by omega
                  rw [HX.out, Pt.okc_iff]; exact h)
              by_cases e45 : x = 45
              · have HOk := Lib.hid (HNx.out (.inr (.inr e45)))
                clear HX
                subst e45
                go_wp2
                go_roundw
                case rel => exact ⟨k + 1, by omega, by go_num, trivial, HOk.out⟩
                case measure => simp [intOf]; omega
              · have hne : ((x : Int) != 45) = true := by simp; omega
                clear e45
                rcases Nat.lt_or_ge x 48 with c1 | c1
                · have HFF := Lib.hid (HFb.out (by intro h; rcases h with h | h | h <;> first | omega | (subst h; simp at hne)))
                  go_wp2
                  go_ret
                  exact ⟨retB7 HFF.out.symm, rfl⟩
                · rcases Nat.lt_or_ge 57 x with c2 | c2
                  · rcases Nat.lt_or_ge x 97 with c3 | c3
                    · have HFF := Lib.hid (HFb.out (by omega))
                      go_wp2
                      go_ret
                      exact ⟨retB7 HFF.out.symm, rfl⟩
                    · rcases Nat.lt_or_ge 122 x with c4 | c4
                      · have HFF := Lib.hid (HFb.out (by omega))
                        go_wp2
                        go_ret
                        exact ⟨retB7 HFF.out.symm, rfl⟩
                      · have HOk := Lib.hid (HNx.out (.inl ⟨c3, c4⟩))
                        go_wp2
                        go_roundw
                        case rel => exact ⟨k + 1, by omega, by go_num, trivial, HOk.out⟩
                        case measure => simp [intOf]; omega
                  · have HOk := Lib.hid (HNx.out (.inr (.inl ⟨c1, c2⟩)))
                    go_wp2
                    go_roundw
                    case rel => exact ⟨k + 1, by omega, by go_num, trivial, HOk.out⟩
                    case measure => simp [intOf]; omega
            · obtain rfl : k = n := by omega
              have HFF := Lib.hid (HTT.out HAll.out)
              go_wp2
              go_ret
              exact ⟨retB7 HFF.out.symm, rfl⟩
end Go.Proofs.YtihioekepflpiaaGreatDoor
