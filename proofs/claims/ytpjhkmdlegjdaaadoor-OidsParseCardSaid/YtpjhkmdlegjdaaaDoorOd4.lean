/- The walk of the document's Parse of identifiers. -/
import Derived.Test.YtpjhkmdlegjdaaaDoorOd1
import Derived.Test.YtpjhkmdlegjdaaaDoorOd3
import Derived.Test.YtpjhkmdlegjdaaaDoorWf2
namespace Go.Proofs.YtpjhkmdlegjdaaaDoor
open Go.RowKit

theorem own_apart {w : World} {b1 b2 : Nat} {e1 e2 : TypeId} {s1 s2 : Nat} {v1 v2 : Value} {n1 n2 : Nat} {x1 x2 : List Value} (h1 : w.ownsRow b1 e1 s1 v1 n1 x1) (h2 : w.ownsRow b2 e2 s2 v2 n2 x2) (he : e1 ≠ e2) : v1.ownBlock = none ∨ v1.ownBlock ≠ v2.ownBlock := by
  rcases h1.2 with ⟨rfl, _⟩ | ⟨g1, _, _, rfl, _, k1, _⟩
  · exact .inl rfl
  · right
    rcases h2.2 with ⟨rfl, _⟩ | ⟨g2, _, _, rfl, _, k2, _⟩
    · simp [Value.ownBlock]
    · simp only [Value.ownBlock, ne_eq, Option.some.injEq]
      intro e
      subst e
      rw [k1] at k2
      simp at k2
      exact he k2.2

namespace Od
theorem splitA_pos : ∀ (l acc : List Nat), 0 < (splitA acc l).length
  | [], acc => by simp [splitA]
  | c :: r, acc => by
    rw [splitA]
    split
    · simp
    · exact splitA_pos r _
theorem splitA_len : ∀ (l acc : List Nat), (splitA acc l).length ≤ l.length + 1
  | [], acc => by simp [splitA]
  | c :: r, acc => by
    rw [splitA]
    split
    · have := splitA_len r []; simp; omega
    · have := splitA_len r (acc ++ [c]); simp; omega
theorem splitA_lt : ∀ (l acc : List Nat), (∀ x ∈ l, x < 256) → (∀ x ∈ acc, x < 256) → ∀ p ∈ splitA acc l, ∀ x ∈ p, x < 256
  | [], acc, _, ha, p, hp => by
    simp [splitA] at hp
    subst hp
    exact ha
  | c :: r, acc, hl, ha, p, hp => by
    rw [splitA] at hp
    split at hp
    · rcases List.mem_cons.1 hp with rfl | hp
      · exact ha
      · exact splitA_lt r [] (fun x hx => hl x (by simp [hx])) (by simp) p hp
    · exact splitA_lt r (acc ++ [c]) (fun x hx => hl x (by simp [hx])) (fun x hx => by
        rcases List.mem_append.1 hx with h | h
        · exact ha x h
        · simp at h; subst h; exact hl x (by simp)) p hp
theorem arcs_cons (p : List Nat) (r : List (List Nat)) : arcs (p :: r) = match part p with | none => none | some n => (arcs r).map (n :: ·) := by
  rw [arcs]
  cases part p <;> cases arcs r <;> rfl
theorem arcs_step (ps : List (List Nat)) (ns : List Int) (k : Nat) (hk : k < ps.length) (h : arcs ps = (arcs (ps.drop k)).map (ns ++ ·)) :
    match part (ps.getD k []) with | none => arcs ps = none | some n => arcs ps = (arcs (ps.drop (k + 1))).map ((ns ++ [n]) ++ ·) := by
  rw [List.drop_eq_getElem_cons hk, arcs_cons] at h
  have e : ps.getD k [] = ps[k] := by rw [List.getD_eq_getElem?_getD, List.getElem?_eq_getElem hk]; rfl
  rw [e]
  cases hp : part ps[k] with
  | none => rw [hp] at h; exact h
  | some n =>
    rw [hp] at h
    simp only [Option.map_map] at h
    rw [h]
    congr 1
    funext x
    simp
end Od

/-- What the document's Parse answers. -/
def PsPost (w w' : World) (r : Except Nat (List Int)) (e : Ending) : Prop :=
  match r with
  | .ok l => ∃ v, e = .returned (.tuple #[v, .int .i64 0]) ∧ FrI w w' v l
  | .error k => e = .returned (.tuple #[.slice none 0 0, .int .i64 k]) ∧ w.grownBy w' none

theorem strInt : 9 ≠ 3 := by decide

theorem appI_both {w b c : World} {v v' V : Value} {ns : List Int} {q : Int} {b2 m : Nat} {xs : List Value} (hF : FrI w b v ns) (hO : b.ownsRow b2 9 1 V m xs)
    (ho : c.ownsRow w.heap.size 3 1 v' (ns.length + 1) (cellsI ns ++ [.int .i64 q])) (hg : b.grownBy c v.ownBlock) : FrI w c v' (ns ++ [q]) ∧ c.ownsRow b2 9 1 V m xs :=
  ⟨hF.step ho hg (by rw [cellsI_append]; rfl), hO.kept hg (own_apart hO hF.own strInt)⟩

set_option maxRecDepth 100000 in
set_option maxHeartbeats 2000000 in
theorem refParse_any (s : ByteArray) (w : World) (hs : s.size ≤ 1000000) :
    Calls Tryd.prog 8 #[.string s] w fun e w' => PsPost w w' (Od.parse (strL s)) e := by
  obtain ⟨PS, hPS⟩ : ∃ PS, PS = Od.split (strL s) := ⟨_, rfl⟩
  have hsp := fun W => refSplit_any s W (by omega)
  rw [← hPS] at hsp
  have hpos : 0 < PS.length := by rw [hPS]; exact Od.splitA_pos _ _
  have hlen : PS.length ≤ 1000001 := by
    have := Od.splitA_len (strL s) []
    rw [strL_len] at this
    rw [hPS, Od.split]; omega
  have hplt : ∀ p ∈ PS, ∀ x ∈ p, x < 256 := by rw [hPS]; exact Od.splitA_lt _ _ (strL_lt s) (by simp)
  have HParse : Hid (Od.parse (strL s) = match Od.arcs PS with | none => .error 4 | some a => if Od.right a = true then .ok a else .error 1) := Lib.hid (by rw [hPS]; rfl)
  have HStep := Lib.hid (Od.arcs_step PS)
  have HFg : Hid (∀ k, k < PS.length → ∀ W, Calls Tryd.prog 26 #[.string (strOf (PS.getD k []))] W fun e w' => e = .returned (.tuple #[.int .i64 (figOut (PS.getD k [])).1, .bool (figOut (PS.getD k [])).2]) ∧ W.grownBy w' none) := Lib.hid (fun k hk W => by
    have := refFigures_any (strOf (PS.getD k [])) W
    rw [strL_strOf (hplt _ (by rw [List.getD_eq_getElem?_getD, List.getElem?_eq_getElem hk]; exact List.getElem_mem hk))] at this
    exact this)
  obtain ⟨m, hm⟩ : ∃ m, m = PS.length := ⟨_, rfl⟩
  have HM := Lib.hid hm
  rw [← hm] at hpos hlen HFg
  have HA0 : Hid (Od.arcs PS = (Od.arcs (PS.drop 0)).map ([] ++ ·)) := Lib.hid (by simp)
  have HAm : Hid (∀ ns, Od.arcs PS = (Od.arcs (PS.drop m)).map (ns ++ ·) → Od.arcs PS = some ns) := Lib.hid (fun ns h => by
    rw [h, List.drop_eq_nil_of_le (by omega)]
    simp [Od.arcs])
  have HSp := Lib.hid hsp
  have F0 : Hid (FrI w (w.alloc (.cells #[] 3)) (.slice (some ⟨w.heap.size, 0, none⟩) 0 0) []) := Lib.hid ⟨World.grownBy_alloc _ _ _, ownsRow_lit (alloc_at w _) (Nat.le_refl _) (by simp)⟩
  generalize hPa : Od.parse (strL s) = Pa at *
  clear hPS hsp hplt hm hPa hs
  go_enter Tryd.func8, Tryd.ntmps8
  go_wp2_with (go_at_call 25; refine (HSp.out _).mono ?_; rintro e w2 ⟨v2, rfl, hF2⟩; obtain ⟨a2, g2, c2, rfl, q1, q2, q3, q4⟩ := ownsRow_form hF2.own; rw [← HM.out] at q1 q3; obtain ⟨rfl, q5, q6⟩ := q3 hpos; have hO2 := hF2.own; rw [← HM.out] at hO2; have HO2 := Lib.hid hO2; have HF1 := Lib.hid (F0.out.more hF2.grown); rw [← HM.out]; clear hF2 q3 q4 hO2)
  go_loopw [4, 13] (fun out i wr => ∃ (k : Nat) (ns : List Int), k ≤ m ∧ ns.length = k ∧ i = .int .i64 k ∧ FrI w wr out ns ∧ wr.ownsRow (w.alloc (.cells #[] 3)).heap.size 9 1 (.slice (some ⟨g2, 0, none⟩) m c2) m (cellsS PS) ∧ Od.arcs PS = (Od.arcs (PS.drop k)).map (ns ++ ·)) (fun _ i _ => m - (intOf i).toNat)
  case atStart => exact ⟨0, [], by omega, rfl, rfl, HF1.out, HO2.out, HA0.out⟩
  case round =>
    obtain ⟨k, ns, hk, hnk, rfl, hF, hO, hA⟩ := hrel
    have HF := Lib.hid hF
    have HO := Lib.hid hO
    have HA := Lib.hid hA
    clear hF hO hA
    by_cases hkm : k < m
    · have hcell : wr.cell? ⟨g2, k, none⟩ = some (.string (strOf (PS.getD k []))) := by
        obtain ⟨_, g', _, e, _, _, p3, p4⟩ := ownsRow_form HO.out
        cases e
        obtain ⟨e, _⟩ := p3 (by omega)
        cases e
        rw [p4 k hkm, cellsS_at PS k (by rw [← HM.out]; exact hkm)]
      have hfg := HFg.out k hkm
      have hst := HStep.out ns k (by rw [← HM.out]; exact hkm) HA.out
      have hsize : ((strOf (PS.getD k [])).size : Int) = ((PS.getD k []).length : Int) := by rw [strOf_size]
      generalize PS.getD k [] = p at *
      by_cases hok : Wh.figs p = true ∧ p.length ≤ 10
      · obtain ⟨hf, h10⟩ := hok
        have hpt : Od.part p = some ((Wh.pval p : Nat) : Int) := by rw [Od.part, if_pos ⟨hf, h10⟩]
        rw [hpt] at hst
        have HSt : Hid (Od.arcs PS = (Od.arcs (PS.drop (k + 1))).map ((ns ++ [((Wh.pval p : Nat) : Int)]) ++ ·)) := Lib.hid hst
        have hfo : figOut p = (((Wh.pval p : Nat) : Int), true) := by rw [figOut, if_pos hf]
        rw [hfo] at hfg
        have HFp := Lib.hid hfg
        generalize Wh.pval p = q at *
        generalize strOf p = T at *
        generalize p.length = pl at *
        clear hfg hst hfo hpt hf
        go_wp2_with (first
          | (go_at_call 26; refine (HFp.out _).mono ?_; rintro e w3 ⟨rfl, hg3⟩; have HF3 := Lib.hid (HF.out.more hg3); have HO3 := Lib.hid (HO.out.kept hg3 (Classical.em _)); clear hg3)
          | (at_builtin; refine wpList_app1 (by rfl) (.tmp 29) (.tmp 31) 23 (by rfl) w.heap.size 3 (.int .i64 0) 8 Tryd.underlying23 (by kernel_rfl) rfl (by decide) _ ns.length (cellsI ns) (by rfl) (HF3.out.own.alloc _) ⟨_, 0, none⟩ (.int .i64 (q : Int)) (by rfl) (cell_blk (alloc_at _ _) 0 rfl) rfl (by omega) (by have := HF3.out.le; rw [alloc_size]; omega) ?_; intro v' w4 ho4 hg4; have hb4 := appI_both (HF3.out.alloc _) (HO3.out.alloc _) ho4 hg4; have F4 := Lib.hid hb4.1; have HO4 := Lib.hid hb4.2; clear hb4 ho4 hg4))
        go_roundw
        case rel => exact ⟨k + 1, ns ++ [(q : Int)], by omega, by rw [List.length_append, hnk]; rfl, by go_num, F4.out, HO4.out, HSt.out⟩
        case measure => simp [intOf]; omega
      · have hpt : Od.part p = none := by rw [Od.part, if_neg hok]
        rw [hpt] at hst
        have HR : Hid (Pa = .error 4) := Lib.hid (by rw [HParse.out, show Od.arcs PS = none from hst])
        clear hst hpt
        by_cases hf : Wh.figs p = true
        · have h10 : 10 < p.length := Nat.lt_of_not_le (fun h => hok ⟨hf, h⟩)
          have hfo : figOut p = (((Wh.pval p : Nat) : Int), true) := by rw [figOut, if_pos hf]
          rw [hfo] at hfg
          have HFp := Lib.hid hfg
          generalize Wh.pval p = q at *
          generalize strOf p = T at *
          generalize p.length = pl at *
          clear hfg hfo hf hok
          go_wp2_with (go_at_call 26; refine (HFp.out _).mono ?_; rintro e w3 ⟨rfl, hg3⟩; have HF3 := Lib.hid (HF.out.more hg3); clear hg3)
          go_ret2
          rw [HR.out]
          exact ⟨rfl, HF3.out.grown⟩
        · have hfo : figOut p = (0, false) := by rw [figOut, if_neg hf]
          rw [hfo] at hfg
          have HFp := Lib.hid hfg
          generalize strOf p = T at *
          generalize p.length = pl at *
          clear hfg hfo hf hok
          go_wp2_with (go_at_call 26; refine (HFp.out _).mono ?_; rintro e w3 ⟨rfl, hg3⟩; have HF3 := Lib.hid (HF.out.more hg3); clear hg3)
          go_ret2
          rw [HR.out]
          exact ⟨rfl, HF3.out.grown⟩
    · obtain rfl : k = m := by omega
      have harc := HAm.out ns HA.out
      have HRt := Lib.hid (refRight_any _ ns wr HF.out.ints)
      by_cases hr : Od.right ns = true
      · have HR : Hid (Pa = .ok ns) := Lib.hid (by rw [HParse.out, harc]; simp [hr])
        rw [hr] at HRt
        clear harc hr
        go_wp2_with (go_at_call 17; refine HRt.out.mono ?_; rintro e w3 ⟨rfl, hw3⟩; rw [hw3]; clear hw3)
        go_ret2
        rw [HR.out]
        exact ⟨_, rfl, HF.out⟩
      · have HR : Hid (Pa = .error 1) := Lib.hid (by rw [HParse.out, harc]; simp [hr])
        rw [Bool.not_eq_true] at hr
        rw [hr] at HRt
        clear harc hr
        go_wp2_with (go_at_call 17; refine HRt.out.mono ?_; rintro e w3 ⟨rfl, hw3⟩; rw [hw3]; clear hw3)
        go_ret2
        rw [HR.out]
        exact ⟨rfl, HF.out.grown⟩
end Go.Proofs.YtpjhkmdlegjdaaaDoor
