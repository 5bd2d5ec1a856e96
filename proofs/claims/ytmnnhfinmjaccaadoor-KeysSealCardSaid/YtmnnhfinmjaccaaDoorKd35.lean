import Derived.Test.YtmnnhfinmjaccaaDoorKd24
import Derived.Test.YtmnnhfinmjaccaaDoorKd34
namespace Go.Proofs.YtmnnhfinmjaccaaDoor
open Go.RowKit Go.Maps
open Go.ChangeMaps (setBlock)
set_option linter.unusedVariables false
instance decMem3 (x : ByteArray × ByteArray × ByteArray) (l : List (ByteArray × ByteArray × ByteArray)) : Decidable (x ∈ l) := decidable_of_iff (∃ y ∈ l, y = x) (by simp)
/-- Keys by their numbers, and what was signed. -/
structure Rg where
  ks : List (ByteArray × List Nat)
  bk : List (ByteArray × ByteArray × ByteArray)
namespace Rg
def get (s : Rg) (id : ByteArray) : Option (List Nat) := (s.ks.find? (fun p => decide (p.1 = id))).map (·.2)
def putL (id : ByteArray) (k : List Nat) : List (ByteArray × List Nat) → List (ByteArray × List Nat)
  | [] => [(id, k)]
  | p :: r => if p.1 = id then (id, k) :: r else p :: putL id k r
def add (s : Rg) (id : ByteArray) (k : List Nat) : Rg := { s with ks := putL id k s.ks }
def signB (l : List (ByteArray × ByteArray × ByteArray)) (x : ByteArray × ByteArray × ByteArray) : List (ByteArray × ByteArray × ByteArray) := if x ∈ l then l else l ++ [x]
def sign (s : Rg) (x : ByteArray × ByteArray × ByteArray) : Rg := { s with bk := signB s.bk x }
def none : Rg := ⟨[], []⟩
theorem putL_miss {id : ByteArray} {k : List Nat} : ∀ {l : List (ByteArray × List Nat)}, (∀ p ∈ l, p.1 ≠ id) → putL id k l = l ++ [(id, k)]
  | [], _ => rfl
  | p :: r, h => by rw [putL, if_neg (h p (by simp)), putL_miss (fun q hq => h q (by simp [hq]))]; rfl
theorem putL_hit {id : ByteArray} {k k0 : List Nat} {l2 : List (ByteArray × List Nat)} : ∀ {l1 : List (ByteArray × List Nat)}, (∀ p ∈ l1, p.1 ≠ id) → putL id k (l1 ++ (id, k0) :: l2) = l1 ++ (id, k) :: l2
  | [], _ => by rw [List.nil_append, putL, if_pos rfl]; rfl
  | p :: r, h => by rw [List.cons_append, putL, if_neg (h p (by simp)), putL_hit (fun q hq => h q (by simp [hq]))]; rfl
theorem putL_mem {id : ByteArray} {k : List Nat} : ∀ {l : List (ByteArray × List Nat)} {p : ByteArray × List Nat}, p ∈ putL id k l → p ∈ l ∨ p = (id, k)
  | [], p, h => by simp [putL] at h; exact .inr h
  | q :: r, p, h => by
    rw [putL] at h
    split at h
    · rcases List.mem_cons.1 h with h | h
      · exact .inr h
      · exact .inl (by simp [h])
    · rcases List.mem_cons.1 h with h | h
      · exact .inl (by simp [h])
      · rcases putL_mem h with h | h
        · exact .inl (by simp [h])
        · exact .inr h
theorem putL_fst {id : ByteArray} {k : List Nat} : ∀ {l : List (ByteArray × List Nat)}, (l.map (·.1)).Nodup → ((putL id k l).map (·.1)).Nodup
  | [], _ => by simp [putL]
  | p :: r, h => by
    rw [List.map_cons, List.nodup_cons] at h
    rw [putL]
    split
    · rename_i he
      rw [List.map_cons, List.nodup_cons]
      exact ⟨by rw [← he]; exact h.1, h.2⟩
    · rename_i he
      rw [List.map_cons, List.nodup_cons]
      refine ⟨fun hm => ?_, putL_fst h.2⟩
      obtain ⟨q, hq, hqe⟩ := List.mem_map.1 hm
      rcases putL_mem hq with hq | hq
      · exact h.1 (List.mem_map.2 ⟨q, hq, hqe⟩)
      · rw [hq] at hqe; exact he hqe.symm
theorem get_add_same {s : Rg} {id : ByteArray} {k : List Nat} : (s.add id k).get id = some k := by
  unfold get add
  show ((putL id k s.ks).find? _).map _ = _
  generalize s.ks = l
  induction l with
  | nil => simp [putL]
  | cons p r ih =>
    rw [putL]
    split
    · simp
    · rename_i h; rw [List.find?_cons_of_neg (by simpa using h)]; exact ih
theorem get_add_other {s : Rg} {id i : ByteArray} {k : List Nat} (hne : i ≠ id) : (s.add id k).get i = s.get i := by
  unfold get add
  show ((putL id k s.ks).find? _).map _ = _
  generalize s.ks = l
  induction l with
  | nil => simp [putL, Ne.symm hne]
  | cons p r ih =>
    rw [putL]
    split
    · rename_i h
      rw [List.find?_cons_of_neg (by simpa using Ne.symm hne), List.find?_cons_of_neg (by rw [h]; simpa using Ne.symm hne)]
    · by_cases hp : p.1 = i
      · rw [List.find?_cons_of_pos (by simpa using hp), List.find?_cons_of_pos (by simpa using hp)]
      · rw [List.find?_cons_of_neg (by simpa using hp), List.find?_cons_of_neg (by simpa using hp)]; exact ih
end Rg
/-- What is right of it. -/
structure GoodG (s : Rg) : Prop where
  kd : (s.ks.map (·.1)).Nodup
  kl : ∀ p ∈ s.ks, p.1.size ≤ 1000 ∧ p.2.length = 32 ∧ ∀ x ∈ p.2, x < 256
  bd : s.bk.Nodup
  bl : ∀ p ∈ s.bk, p.1.size ≤ 1000 ∧ p.2.1.size ≤ 1000 ∧ p.2.2.size ≤ 100000
theorem good_none : GoodG Rg.none := ⟨by simp [Rg.none], by simp [Rg.none], by simp [Rg.none], by simp [Rg.none]⟩
theorem GoodG.add {s : Rg} (h : GoodG s) {id : ByteArray} {k : List Nat} (hi : id.size ≤ 1000) (hk : k.length = 32) (h8 : ∀ x ∈ k, x < 256) : GoodG (s.add id k) :=
  ⟨Rg.putL_fst h.kd, fun p hp => by
    rcases Rg.putL_mem hp with hp | rfl
    · exact h.kl p hp
    · exact ⟨hi, hk, h8⟩, h.bd, h.bl⟩
theorem GoodG.sign {s : Rg} (h : GoodG s) {x : ByteArray × ByteArray × ByteArray} (hx : x.1.size ≤ 1000 ∧ x.2.1.size ≤ 1000 ∧ x.2.2.size ≤ 100000) : GoodG (s.sign x) := by
  refine ⟨h.kd, h.kl, ?_, ?_⟩
  · show (Rg.signB s.bk x).Nodup
    unfold Rg.signB
    split
    · exact h.bd
    · rename_i hn; exact List.nodup_append.2 ⟨h.bd, by simp, by intro a ha b hb e; simp at hb; subst hb; subst e; exact hn ha⟩
  · intro p hp
    have hp : p ∈ Rg.signB s.bk x := hp
    unfold Rg.signB at hp
    split at hp
    · exact h.bl p hp
    · rcases List.mem_append.1 hp with hp | hp
      · exact h.bl p hp
      · simp at hp; rw [hp]; exact hx
theorem GoodG.got {s : Rg} (h : GoodG s) {id : ByteArray} {k : List Nat} (hg : s.get id = some k) : (id, k) ∈ s.ks ∧ k.length = 32 ∧ ∀ x ∈ k, x < 256 := by
  unfold Rg.get at hg
  obtain ⟨p, hp, rfl⟩ := Option.map_eq_some_iff.1 hg
  have h1 := List.mem_of_find?_eq_some hp
  have h2 : p.1 = id := by have := List.find?_some hp; simpa using this
  obtain ⟨_, h3, h4⟩ := h.kl p h1
  exact ⟨by rw [← h2]; exact h1, h3, h4⟩
def keyP (p : ByteArray × List Nat) : Value × Value := (.string p.1, .agg (bytesV p.2))
def bookP (p : ByteArray × ByteArray × ByteArray) : Value × Value := (.agg #[.string p.1, .string p.2.1, .string p.2.2], .bool true)
/-- A map that may be nil. -/
def MapO (w : World) : Option Nat → List (Value × Value) → Prop
  | none, L => L = []
  | some b, L => MapL w b L
theorem MapO.of {w w' : World} {o : Option Nat} {L : List (Value × Value)} (h : MapO w o L) (hb : ∀ k, o = some k → w'.heap[k]? = w.heap[k]?) : MapO w' o L := by
  cases o with
  | none => exact h
  | some b => exact mapL_of h (hb b rfl)
theorem ks_keys {s : Rg} (h : GoodG s) : ∀ p ∈ s.ks.map keyP, ∃ l, keyOf Tryd.prog 9 p.1 = some l := fun p hp => by
  obtain ⟨q, hq, rfl⟩ := List.mem_map.1 hp
  exact keyS q.1 (by have := (h.kl q hq).1; omega)
theorem bk_keys {s : Rg} (h : GoodG s) : ∀ p ∈ s.bk.map bookP, ∃ l, keyOf Tryd.prog 86 p.1 = some l := fun p hp => by
  obtain ⟨q, hq, rfl⟩ := List.mem_map.1 hp
  obtain ⟨h1, h2, h3⟩ := h.bl q hq
  exact keyE q.1 q.2.1 q.2.2 (by omega) (by omega) (by omega)
/-- A key is looked up. -/
theorem ks_look {s : Rg} (h : GoodG s) {w : World} {o : Option Nat} (hm : MapO w o (s.ks.map keyP)) (id : ByteArray) (hi : id.size ≤ 1000) :
    (Instr.lookup 80 (.map o) (.string id) true).run Tryd.prog w = .ok (match s.get id with | none => .tuple #[.agg zeros32, .bool false] | some k => .tuple #[.agg (bytesV k), .bool true]) w := by
  obtain ⟨kl, hkl⟩ := keyS id (by omega)
  cases hg : s.get id with
  | none =>
    have hno : ∀ p ∈ s.ks.map keyP, p.1 ≠ .string id := fun p hp e => by
      obtain ⟨q, hq, rfl⟩ := List.mem_map.1 hp
      have e : q.1 = id := by simpa [keyP] using e
      unfold Rg.get at hg
      rw [Option.map_eq_none_iff, List.find?_eq_none] at hg
      exact hg q hq (by simpa using e)
    cases o with
    | none => exact look_nil kS mapKT (zK w) hkl true
    | some b => exact look_miss kS mapKT (zK w) hm (ks_keys h) hkl hno true
  | some k =>
    obtain ⟨h1, _, _⟩ := h.got hg
    cases o with
    | none =>
      have hm : s.ks.map keyP = [] := hm
      rw [List.map_eq_nil_iff] at hm
      rw [hm] at h1; exact absurd h1 (by simp)
    | some b =>
      refine look_hit kS mapKT hm (ks_keys h) hkl (v := .agg (bytesV k)) (List.mem_map.2 ⟨_, h1, rfl⟩) (fun p hp e => ?_) true
      obtain ⟨q, hq, rfl⟩ := List.mem_map.1 hp
      have e : q.1 = id := by simpa [keyP] using e
      have : q = (id, k) := by
        have hpw := h.kd
        rw [List.Nodup, List.pairwise_map] at hpw
        rcases List.pairwise_iff_getElem.1 hpw with hpw
        obtain ⟨i, hi, rfl⟩ := List.getElem_of_mem hq
        obtain ⟨j, hj, hje⟩ := List.getElem_of_mem h1
        rcases Nat.lt_trichotomy i j with hlt | heq | hlt
        · exact absurd (by rw [e, hje]) (hpw i j hi hj hlt)
        · subst heq; exact hje
        · exact absurd (by rw [e, hje]) (hpw j i hj hi hlt)
      rw [this]; rfl
/-- What was signed is looked up. -/
theorem bk_look {s : Rg} (h : GoodG s) {w : World} {o : Option Nat} (hm : MapO w o (s.bk.map bookP)) (a b c : ByteArray) (ha : a.size ≤ 1000) (hb : b.size ≤ 1000) (hc : c.size ≤ 100000) :
    (Instr.lookup 81 (.map o) (.agg #[.string a, .string b, .string c]) false).run Tryd.prog w = .ok (.bool (decide ((a, b, c) ∈ s.bk))) w := by
  obtain ⟨kl, hkl⟩ := keyE a b c (by omega) (by omega) (by omega)
  have he : ∀ q : ByteArray × ByteArray × ByteArray, (bookP q).1 = .agg #[.string a, .string b, .string c] → q = (a, b, c) := fun q e => by
    obtain ⟨q1, q2, q3⟩ := q
    simpa [bookP] using e
  by_cases hin : (a, b, c) ∈ s.bk
  · rw [decide_eq_true hin]
    cases o with
    | none =>
      have hm : s.bk.map bookP = [] := hm
      rw [List.map_eq_nil_iff] at hm
      rw [hm] at hin; exact absurd hin (by simp)
    | some k => exact look_hit kE mapET hm (bk_keys h) hkl (v := .bool true) (List.mem_map.2 ⟨_, hin, rfl⟩) (fun p hp e => by
        obtain ⟨q, hq, rfl⟩ := List.mem_map.1 hp; rfl) false
  · rw [decide_eq_false hin]
    cases o with
    | none => exact look_nil kE mapET (zB w) hkl false
    | some k => exact look_miss kE mapET (zB w) hm (bk_keys h) hkl (fun p hp e => by
        obtain ⟨q, hq, rfl⟩ := List.mem_map.1 hp
        rw [he q e] at hq; exact hin hq) false
/-- A key is put. -/
theorem ks_put {s : Rg} (h : GoodG s) {w : World} {g : Nat} (hm : MapL w g (s.ks.map keyP)) (id : ByteArray) (k : List Nat) (hi : id.size ≤ 1000) :
    ∃ es' clock', (∀ W : World, W.heap[g]? = w.heap[g]? → (Instr.mapUpdate 80 (.map (some g)) (.string id) (.agg (bytesV k))).run Tryd.prog W = .ok () (setBlock W g (.map es' clock'))) ∧ es'.toList.map (fun x => (x.key, x.val)) = (s.add id k).ks.map keyP := by
  obtain ⟨kl, hkl⟩ := keyS id (by omega)
  by_cases hin : ∃ p ∈ s.ks.map keyP, p.1 = .string id
  · have hd : (s.ks.map keyP).Pairwise (fun p q => p.1 ≠ q.1) := by
      have := h.kd
      rw [List.Nodup, List.pairwise_map] at this
      rw [List.pairwise_map]
      exact this.imp (fun hab e => hab (by simpa [keyP] using e))
    obtain ⟨es', cl', L1, L2, v0, h1, h2, h3⟩ := put_hit kS mapKT hm (ks_keys h) (v := .agg (bytesV k)) hkl hin hd
    refine ⟨es', cl', h1, ?_⟩
    rw [h3]
    obtain ⟨l1, r, hl, rfl, hr⟩ := List.map_eq_append_iff.1 h2
    obtain ⟨q, l2, rfl, hq, rfl⟩ := List.map_eq_cons_iff.1 hr
    have hq1 : q.1 = id := by have := congrArg Prod.fst hq; simpa [keyP] using this
    have hno : ∀ p ∈ l1, p.1 ≠ id := fun p hp e => by
      have := h.kd
      rw [hl, List.map_append, List.map_cons, List.nodup_append] at this
      exact this.2.2 p.1 (List.mem_map.2 ⟨p, hp, rfl⟩) q.1 (by simp) (by rw [e, hq1])
    show _ = (Rg.putL id k s.ks).map keyP
    rw [hl, show q = (id, q.2) from by rw [← hq1], Rg.putL_hit hno, List.map_append, List.map_cons]
    rfl
  · have hno : ∀ p ∈ s.ks.map keyP, p.1 ≠ .string id := fun p hp e => hin ⟨p, hp, e⟩
    obtain ⟨es', cl', h1, h2⟩ := put_miss kS mapKT hm (ks_keys h) (v := .agg (bytesV k)) hkl hno
    refine ⟨es', cl', h1, ?_⟩
    rw [h2]
    show _ = (Rg.putL id k s.ks).map keyP
    rw [Rg.putL_miss (fun p hp e => hno (keyP p) (List.mem_map.2 ⟨p, hp, rfl⟩) (by rw [← e]; rfl)), List.map_append]
    rfl
/-- What is signed is put. -/
theorem bk_put {s : Rg} (h : GoodG s) {w : World} {g : Nat} (hm : MapL w g (s.bk.map bookP)) (a b c : ByteArray) (ha : a.size ≤ 1000) (hb : b.size ≤ 1000) (hc : c.size ≤ 100000) :
    ∃ es' clock', (∀ W : World, W.heap[g]? = w.heap[g]? → (Instr.mapUpdate 81 (.map (some g)) (.agg #[.string a, .string b, .string c]) (.bool true)).run Tryd.prog W = .ok () (setBlock W g (.map es' clock'))) ∧ es'.toList.map (fun x => (x.key, x.val)) = (s.sign (a, b, c)).bk.map bookP := by
  obtain ⟨kl, hkl⟩ := keyE a b c (by omega) (by omega) (by omega)
  have he : ∀ q : ByteArray × ByteArray × ByteArray, (bookP q).1 = .agg #[.string a, .string b, .string c] → q = (a, b, c) := fun q e => by
    obtain ⟨q1, q2, q3⟩ := q
    simpa [bookP] using e
  show ∃ es' clock', _ ∧ _ = (Rg.signB s.bk (a, b, c)).map bookP
  unfold Rg.signB
  by_cases hin : (a, b, c) ∈ s.bk
  · rw [if_pos hin]
    have hd : (s.bk.map bookP).Pairwise (fun p q => p.1 ≠ q.1) := by
      rw [List.pairwise_map]
      refine h.bd.imp (fun {p q} hab e => hab ?_)
      obtain ⟨p1, p2, p3⟩ := p
      obtain ⟨q1, q2, q3⟩ := q
      simpa [bookP] using e
    obtain ⟨es', cl', L1, L2, v0, h1, h2, h3⟩ := put_hit kE mapET hm (bk_keys h) (v := .bool true) hkl ⟨_, List.mem_map.2 ⟨_, hin, rfl⟩, rfl⟩ hd
    refine ⟨es', cl', h1, ?_⟩
    have hv : v0 = .bool true := by
      have : (Value.agg #[.string a, .string b, .string c], v0) ∈ s.bk.map bookP := by rw [h2]; simp
      obtain ⟨q, hq, hqe⟩ := List.mem_map.1 this
      exact (congrArg Prod.snd hqe).symm
    rw [h3, h2, hv]
  · rw [if_neg hin]
    obtain ⟨es', cl', h1, h2⟩ := put_miss kE mapET hm (bk_keys h) (v := .bool true) hkl (fun p hp e => by
      obtain ⟨q, hq, rfl⟩ := List.mem_map.1 hp
      rw [he q e] at hq; exact hin hq)
    exact ⟨es', cl', h1, by rw [h2, List.map_append]; rfl⟩
end Go.Proofs.YtmnnhfinmjaccaaDoor
namespace Go.Proofs.YtmnnhfinmjaccaaDoor
open Go.RowKit Go.Maps
open Go.ChangeMaps (setBlock)
set_option linter.unusedVariables false
/-- What a call that turns one of a ring's maps leaves. -/
structure TurnG (w w' : World) (b : Nat) (old : Option Nat) (g : Nat) (L : List (Value × Value)) : Prop where
  upto : Upto (fun k => k = b ∨ old = some k) w w'
  map : MapL w' g L
  from_ : old = some g ∨ old = none ∧ w.heap.size ≤ g
theorem upto_setB {w w5 : World} {b n : Nat} {old : Option Nat} {g : Nat} (h : Upto (fun k => k = b ∨ old = some k) w w5) (hg : old = some g ∨ w.heap.size ≤ g) (o : Obj) : Upto (fun k => k = b ∨ old = some k) w (setBlock (w5.drewN n) g o) := by
  have h2 := setB_grown (w := w5.drewN n) (b := g) o
  refine ⟨h2.os.trans h.os, h2.tape.trans h.tape, h2.output.trans h.output, Nat.le_trans h.size h2.size, fun k hk hn => ?_⟩
  refine (h2.block k (Nat.lt_of_lt_of_le hk h.size) (fun e => ?_)).trans (h.block k hk hn)
  have e := Option.some.inj e
  subst e
  rcases hg with hg | hg
  · exact hn (.inr hg)
  · omega
set_option maxRecDepth 100000 in
set_option maxHeartbeats 1000000 in
/-- Where it has keys. -/
theorem gadd_some (A : Nat → Addr) (w : World) (b g : Nat) (ov : Value) (s : Rg) (va : Option Addr) (vc : Nat) (k : List Nat) (hs : GoodG s) (hm : MapL w g (s.ks.map keyP)) (hb : w.heap[b]? = some (.cells #[.map (some g), ov] 83 (0, 0))) (hE : AllErrs w A) (hL : Laid w)
    (hk : k.length = 32) (hB : Bytes w (.slice va 32 vc) k) :
    Calls Tryd.prog 18 #[.pointer (some ⟨b, 0, none⟩), .slice va 32 vc] w fun e w' => e = .returned (.tuple #[.string (idText k), .nilIface]) ∧ TurnG w w' b (some g) g ((s.add (idText k) k).ks.map keyP) ∧ (b ≠ g → w'.heap[b]? = w.heap[b]?) := by
  have c0 := cell_blk hb 0 rfl
  have hq := run_eql_map_nil (P := Tryd.prog) w (some g) mapKT
  obtain ⟨K, hK⟩ : ∃ K, K = bytesV k := ⟨_, rfl⟩
  have hKs : K.size = 32 := by rw [hK, bytesV_size, hk]
  have hz32 := zeros32_at w
  have HDd : Hid (bytesV (k ++ (List.replicate 32 0).drop k.length) = K) := Lib.hid (by rw [hK, hk]; simp)
  have HZl : Hid ((List.replicate 32 0 : List Nat).length = 32) := Lib.hid rfl
  have HK32 : Hid (k.length ≤ 32) := Lib.hid (by omega)
  have HB := Lib.hid hB
  have HIr : Hid ((Tryd.prog.info? 64).map (·.size) = some K.toList.length) := Lib.hid (by rw [Array.length_toList, hKs]; kernel_rfl)
  obtain ⟨Y, hY⟩ : ∃ Y, Y = idText k := ⟨_, rfl⟩
  have hYs : Y.size = 32 := by
    rw [hY, idText, strOf_size, hexL_len, List.length_take, hmac_len]; rfl
  have HID : Hid (∀ W, w.grownBy W none → Calls Tryd.prog 32 #[.slice va 32 vc] W fun e w' => e = .returned (.string Y) ∧ W.grownBy w' none) := Lib.hid (fun W hW => by
    have := macID_any (.slice va 32 vc) k W (hB.grown hW) (by omega) (hL.grown hW (by simp) (by simp)) _ _ (errs_of_all2 (hE.grown hW))
    rw [hY]; exact this)
  obtain ⟨es', cl', hu, hes⟩ := ks_put hs hm Y k (by omega)
  rw [← hK] at hu
  rw [← hY, ← hes]
  have HU := Lib.hid hu
  have HGL : Hid (g < w.heap.size) := Lib.hid hm.lt
  have HBB := Lib.hid hb
  clear hb hE hL hK hKs hk hB hY hYs hu hes hm hs
  go_enter Tryd.func18, Tryd.ntmps18
  go_wp2_with (first
    | (refine wpList_copyB (by rfl) (.tmp 21) (.tmp 22) 22 22 (by rfl) Tryd.underlying22 (by kernel_rfl) (b := w.heap.size) (N := 32) (Z := List.replicate 32 0) (l := k) (T := 64) (v := .slice va 32 vc) (by rfl) (by rfl) (alloc_at w _) HZl.out (HB.out.grown (World.grownBy_alloc _ _ _)) HK32.out ?_; intro w2 hb2 hg2; rw [HDd.out] at hb2; have B2 := Lib.hid hb2; have G2 : Hid (w.grownBy w2 none) := Lib.hid (grown_forget (World.grownBy_alloc w _ none) (Nat.le_refl _) hg2); clear hb2 hg2)
    | (go_at_call 32; refine (HID.out w2 G2.out).mono ?_; rintro e w3 ⟨rfl, hg3⟩; have G3 := Lib.hid (grown_trans G2.out hg3); have B3 := Lib.hid ((hg3.block _ (blk_lt B2.out) (by simp)).trans B2.out); clear hg3))
  refine wp_region_quiet_tail (fun w' => ∃ n, w' = w3.drewN n) 6 (by kernel_rfl) (by kernel_rfl) ⟨1, rfl⟩ ?_
  simp only [List.take_succ_cons, List.take_zero, List.drop_succ_cons, List.drop_zero]
  have c3 : w3.cell? ⟨b, 0, none⟩ = some (.map (some g)) := by
    rw [World.cell?_of_block (G3.out.block b (blk_lt HBB.out) (by simp))]; exact c0
  iterate 5 (go_big_quiet_step (fail))
  refine wpQuiet_load_mid (by rfl) 64 (.tmp 6) (by rfl) w.heap.size 0 (by rfl) K.toList _ (fun w' hw' => by
    obtain ⟨n, rfl⟩ := hw'
    exact range_all (w := w3) B3.out) Tryd.underlying64 rfl HIr.out ?_
  refine wpQuiet_nil ?_
  rintro _ ⟨n3, rfl⟩
  simp only [Act.put, List.setIfInBounds_toArray, List.set_cons_succ, List.set_cons_zero]
  refine wpList_upd (by rfl) (.tmp 29) (.tmp 30) (.tmp 31) (by rfl) _ _ _ (by rfl) (by rfl) (by rfl) (HU.out (w3.drewN n3) (G3.out.block g HGL.out (by simp))) ?_
  go_wp2
  go_returns
  refine ⟨rfl, ⟨upto_setB (Upto.of_grown _ G3.out) (.inl rfl) _, mapL_set (Nat.lt_of_lt_of_le HGL.out G3.out.size) _ _, .inl rfl⟩, fun hne => ?_⟩
  have hbl := blk_lt HBB.out
  exact ((setB_grown (w := w3.drewN n3) (b := g) _).block b (Nat.lt_of_lt_of_le hbl G3.out.size) (fun e => hne (Option.some.inj e))).trans (G3.out.block b hbl (by simp))
end Go.Proofs.YtmnnhfinmjaccaaDoor
namespace Go.Proofs.YtmnnhfinmjaccaaDoor
open Go.RowKit Go.Maps
open Go.ChangeMaps (setBlock)
set_option linter.unusedVariables false
set_option maxRecDepth 100000 in
set_option maxHeartbeats 1000000 in
/-- Where it has none. -/
theorem gadd_none (A : Nat → Addr) (W0 w : World) (b : Nat) (ov : Value) (s : Rg) (va : Option Addr) (vc : Nat) (k : List Nat) (hs : GoodG s) (he : s.ks = []) (hb : w.heap[b]? = some (.cells #[.map none, ov] 83 (0, 0))) (hE : AllErrs W0 A) (hL : Laid W0) (h0 : W0.grownBy w none) (hb0 : W0.heap.size ≤ b)
    (hk : k.length = 32) (hB : ∀ W, Upto (fun j => j = b) w W → Bytes W (.slice va 32 vc) k) :
    Calls Tryd.prog 18 #[.pointer (some ⟨b, 0, none⟩), .slice va 32 vc] w fun e w' => e = .returned (.tuple #[.string (idText k), .nilIface]) ∧ TurnG w w' b none w.heap.size ((s.add (idText k) k).ks.map keyP) ∧ w'.heap[b]? = some (.cells #[.map (some w.heap.size), ov] 83 (0, 0)) := by
  have c0 := cell_blk hb 0 rfl
  have hq := run_eql_map_nil (P := Tryd.prog) w none mapKT
  have hmm := @run_makeMap Tryd.prog
  have f1 : (w.alloc (.map #[] 0)).frozen? ⟨b, 0, none⟩ = false := free_blk (alloc_keep hb) 0
  have c1 : (w.alloc (.map #[] 0)).cell? ⟨b, 0, none⟩ = some (.map none) := cell_blk (alloc_keep hb) 0 rfl
  have hbl := blk_lt hb
  have hbn : ¬ w.heap.size = b := by omega
  obtain ⟨W1, hW1⟩ : ∃ W1, W1 = (w.alloc (.map #[] 0)).setCell ⟨b, 0, none⟩ (.map (some w.heap.size)) := ⟨_, rfl⟩
  have s1 : W1.heap.size = w.heap.size + 1 := by rw [hW1, setCell_size, alloc_size]
  have S1 := Lib.hid s1
  have m1 : MapL W1 w.heap.size [] := by
    rw [hW1]
    exact mapL_of (mapL_new w) (Below.heap_setCell _ _ _ _ hbn)
  have b1 : W1.heap[b]? = some (.cells #[.map (some w.heap.size), ov] 83 (0, 0)) := by
    rw [hW1]
    have := setCell_heap (i := 0) (alloc_keep (o := .map #[] 0) hb) (.map (some w.heap.size))
    simpa using this
  have u1 : Upto (fun k => k = b ∨ (none : Option Nat) = some k) w W1 := by
    rw [hW1]
    refine ⟨rfl, rfl, rfl, by rw [setCell_size, alloc_size]; omega, fun k hk hn => ?_⟩
    exact (Below.heap_setCell _ _ _ _ (fun e => hn (.inl e))).trans (alloc_old _ _ _ hk)
  have g1 : ∀ {W}, W1.grownBy W none → Upto (fun k => k = b ∨ (none : Option Nat) = some k) w W := fun h => u1.trans (Upto.of_grown (fun _ => False) h) (fun _ _ h => h.elim)
  obtain ⟨K, hK⟩ : ∃ K, K = bytesV k := ⟨_, rfl⟩
  have hKs : K.size = 32 := by rw [hK, bytesV_size, hk]
  have hz32 := zeros32_at w
  have HDd : Hid (bytesV (k ++ (List.replicate 32 0).drop k.length) = K) := Lib.hid (by rw [hK, hk]; simp)
  have HZl : Hid ((List.replicate 32 0 : List Nat).length = 32) := Lib.hid rfl
  have HK32 : Hid (k.length ≤ 32) := Lib.hid (by omega)
  have u0 : Upto (fun j => j = b) w W1 := u1.mono (fun k _ hk => hk.elim id (fun e => by cases e))
  have g0 : W0.grownBy W1 none := u0.base h0 (fun k hk => by rw [hk]; exact hb0)
  have hB := hB W1 u0
  have HB := Lib.hid hB
  have HIr : Hid ((Tryd.prog.info? 64).map (·.size) = some K.toList.length) := Lib.hid (by rw [Array.length_toList, hKs]; kernel_rfl)
  obtain ⟨Y, hY⟩ : ∃ Y, Y = idText k := ⟨_, rfl⟩
  have hYs : Y.size = 32 := by
    rw [hY, idText, strOf_size, hexL_len, List.length_take, hmac_len]; rfl
  have HID : Hid (∀ W, W1.grownBy W none → Calls Tryd.prog 32 #[.slice va 32 vc] W fun e w' => e = .returned (.string Y) ∧ W.grownBy w' none) := Lib.hid (fun W hW => by
    have := macID_any (.slice va 32 vc) k W (hB.grown hW) (by omega) ((hL.grown g0 (by simp) (by simp)).grown hW (by simp) (by simp)) _ _ (errs_of_all2 ((hE.grown g0).grown hW))
    rw [hY]; exact this)
  obtain ⟨es', cl', hu, hes⟩ := ks_put hs (w := W1) (g := w.heap.size) (by rw [he]; exact m1) Y k (by omega)
  rw [← hK] at hu
  rw [← hY, ← hes]
  have HU := Lib.hid hu
  have HBB := Lib.hid b1
  have HU1 := Lib.hid u1
  have HW1 := Lib.hid hW1
  clear hb hE hL hK hKs hk hB hY hYs hu hes he hs h0 hb0 u0 g0 u1 g1 m1 b1 hbl hW1 s1
  go_enter Tryd.func18, Tryd.ntmps18
  go_wp2_with (first
    | (rw [← HW1.out]; refine wpList_copyB (by rfl) (.tmp 21) (.tmp 22) 22 22 (by rfl) Tryd.underlying22 (by kernel_rfl) (b := W1.heap.size) (N := 32) (Z := List.replicate 32 0) (l := k) (T := 64) (v := .slice va 32 vc) (by rw [S1.out]; rfl) (by rfl) (alloc_at W1 _) HZl.out (HB.out.grown (World.grownBy_alloc _ _ _)) HK32.out ?_; intro w2 hb2 hg2; rw [HDd.out] at hb2; have B2 := Lib.hid hb2; have G2 : Hid (W1.grownBy w2 none) := Lib.hid (grown_forget (World.grownBy_alloc W1 _ none) (Nat.le_refl _) hg2); clear hb2 hg2)
    | (go_at_call 32; refine (HID.out w2 G2.out).mono ?_; rintro e w3 ⟨rfl, hg3⟩; have G3 := Lib.hid (grown_trans G2.out hg3); have B3 := Lib.hid ((hg3.block _ (blk_lt B2.out) (by simp)).trans B2.out); clear hg3))
  refine wp_region_quiet_tail (fun w' => ∃ n, w' = w3.drewN n) 6 (by kernel_rfl) (by kernel_rfl) ⟨1, rfl⟩ ?_
  simp only [List.take_succ_cons, List.take_zero, List.drop_succ_cons, List.drop_zero]
  have c3 : w3.cell? ⟨b, 0, none⟩ = some (.map (some w.heap.size)) := by
    rw [World.cell?_of_block (G3.out.block b (blk_lt HBB.out) (by simp))]; exact cell_blk HBB.out 0 rfl
  iterate 5 (go_big_quiet_step (fail))
  refine wpQuiet_load_mid (by rfl) 64 (.tmp 6) (by rfl) W1.heap.size 0 (by rw [S1.out]; rfl) K.toList _ (fun w' hw' => by
    obtain ⟨n, rfl⟩ := hw'
    exact range_all (w := w3) B3.out) Tryd.underlying64 rfl HIr.out ?_
  refine wpQuiet_nil ?_
  rintro _ ⟨n3, rfl⟩
  simp only [Act.put, List.setIfInBounds_toArray, List.set_cons_succ, List.set_cons_zero]
  refine wpList_upd (by rfl) (.tmp 29) (.tmp 30) (.tmp 31) (by rfl) _ _ _ (by rfl) (by rfl) (by rfl) (HU.out (w3.drewN n3) (G3.out.block w.heap.size (by rw [S1.out]; omega) (by simp))) ?_
  go_wp2
  go_returns
  have hg1 : w.heap.size < W1.heap.size := by rw [S1.out]; omega
  refine ⟨rfl, ⟨upto_setB (HU1.out.trans (Upto.of_grown (fun _ => False) G3.out) (fun _ _ h => h.elim)) (.inr (Nat.le_refl _)) _, mapL_set (Nat.lt_of_lt_of_le hg1 G3.out.size) _ _, .inr ⟨rfl, Nat.le_refl _⟩⟩, ?_⟩
  refine ((setB_grown (w := w3.drewN n3) (b := w.heap.size) _).block b (blk_lt ((G3.out.block b (blk_lt HBB.out) (by simp)).trans HBB.out)) (fun e => ?_)).trans ((G3.out.block b (blk_lt HBB.out) (by simp)).trans HBB.out)
  exact hbn (Option.some.inj e).symm
end Go.Proofs.YtmnnhfinmjaccaaDoor
