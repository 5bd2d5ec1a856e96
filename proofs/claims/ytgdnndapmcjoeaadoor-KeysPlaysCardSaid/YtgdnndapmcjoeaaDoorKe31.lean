import Derived.Test.YtgdnndapmcjoeaaDoorKe22
import Derived.Test.YtgdnndapmcjoeaaDoorKe30
namespace Go.Proofs.YtgdnndapmcjoeaaDoor
open Go.RowKit Go.Maps
open Go.ChangeMaps (setBlock)
set_option linter.unusedVariables false
instance decMem3 (x : ByteArray × ByteArray × ByteArray) (l : List (ByteArray × ByteArray × ByteArray)) : Decidable (x ∈ l) := decidable_of_iff (∃ y ∈ l, y = x) (by simp)
/-- Keys by their numbers, and what was signed. -/
structure Rg where
  ks : List (ByteArray × List Nat)
  bk : List (ByteArray × ByteArray × ByteArray)
namespace Rg
def get (s : Rg) (id : ByteArray) : Option (List Nat) := (s.ks.find? (fun p => decide (p.1 = id))).map (·.2)
def add (s : Rg) (id : ByteArray) (k : List Nat) : Rg := if (s.get id).isSome then s else { s with ks := s.ks ++ [(id, k)] }
def signB (l : List (ByteArray × ByteArray × ByteArray)) (x : ByteArray × ByteArray × ByteArray) : List (ByteArray × ByteArray × ByteArray) := if x ∈ l then l else l ++ [x]
def sign (s : Rg) (x : ByteArray × ByteArray × ByteArray) : Rg := { s with bk := signB s.bk x }
def none : Rg := ⟨[], []⟩
theorem add_has {s : Rg} {id : ByteArray} {k k0 : List Nat} (h : s.get id = some k0) : s.add id k = s := by unfold add; rw [h]; rfl
theorem add_new {s : Rg} {id : ByteArray} {k : List Nat} (h : s.get id = Option.none) : s.add id k = { s with ks := s.ks ++ [(id, k)] } := by unfold add; rw [h]; rfl
theorem add_bk (s : Rg) (id : ByteArray) (k : List Nat) : (s.add id k).bk = s.bk := by unfold add; split <;> rfl
theorem get_append (s : Rg) (l : List (ByteArray × List Nat)) (i : ByteArray) : get { s with ks := s.ks ++ l } i = (s.get i).or ((l.find? (fun p => decide (p.1 = i))).map (·.2)) := by
  unfold get
  show ((s.ks ++ l).find? _).map _ = _
  rw [List.find?_append]
  cases s.ks.find? (fun p => decide (p.1 = i)) <;> rfl
theorem get_add_same {s : Rg} {id : ByteArray} {k : List Nat} (h : s.get id = Option.none) : (s.add id k).get id = some k := by
  rw [add_new h, get_append, h]
  simp
theorem get_add_other {s : Rg} {id i : ByteArray} {k : List Nat} (hne : i ≠ id) : (s.add id k).get i = s.get i := by
  cases h : s.get id with
  | some k0 => rw [add_has h]
  | none =>
    rw [add_new h, get_append]
    simp [Ne.symm hne]
theorem get_add_keep {s : Rg} {id i : ByteArray} {k k0 : List Nat} (h : s.get i = some k0) : (s.add id k).get i = some k0 := by
  cases h2 : s.get id with
  | some k1 => rw [add_has h2, h]
  | none => rw [add_new h2, get_append, h]; rfl
theorem get_miss {s : Rg} {id : ByteArray} (h : s.get id = Option.none) : ∀ p ∈ s.ks, p.1 ≠ id := fun p hp e => by
  unfold get at h
  rw [Option.map_eq_none_iff, List.find?_eq_none] at h
  exact h p hp (by simpa using e)
end Rg
/-- What is right of it. -/
structure GoodG (s : Rg) : Prop where
  kd : (s.ks.map (·.1)).Nodup
  kl : ∀ p ∈ s.ks, p.1.size ≤ 1000 ∧ p.2.length = 32 ∧ ∀ x ∈ p.2, x < 256
  ki : ∀ p ∈ s.ks, p.1 = idText p.2
  bd : s.bk.Nodup
  bl : ∀ p ∈ s.bk, p.1.size ≤ 1000 ∧ p.2.1.size ≤ 1000 ∧ p.2.2.size ≤ 100000
  bg : ∀ p ∈ s.bk, ∃ k, s.get p.1 = some k
theorem good_none : GoodG Rg.none := ⟨by simp [Rg.none], by simp [Rg.none], by simp [Rg.none], by simp [Rg.none], by simp [Rg.none], by simp [Rg.none]⟩
theorem GoodG.add {s : Rg} (h : GoodG s) {id : ByteArray} {k : List Nat} (hi : id.size ≤ 1000) (hk : k.length = 32) (h8 : ∀ x ∈ k, x < 256) (he : id = idText k) : GoodG (s.add id k) := by
  cases hg : s.get id with
  | some k0 => rw [Rg.add_has hg]; exact h
  | none =>
    have hno := Rg.get_miss hg
    have hbg : ∀ p ∈ (s.add id k).bk, ∃ k0, (s.add id k).get p.1 = some k0 := fun p hp => by
      rw [Rg.add_bk] at hp
      obtain ⟨k0, h0⟩ := h.bg p hp
      exact ⟨k0, Rg.get_add_keep h0⟩
    rw [Rg.add_new hg] at hbg ⊢
    refine ⟨?_, fun p hp => ?_, fun p hp => ?_, h.bd, h.bl, hbg⟩
    · show ((s.ks ++ [(id, k)]).map _).Nodup
      rw [List.map_append, List.nodup_append]
      refine ⟨h.kd, by simp, fun a ha b hb e => ?_⟩
      obtain ⟨p, hp, rfl⟩ := List.mem_map.1 ha
      simp at hb
      exact hno p hp (e.trans hb)
    · rcases List.mem_append.1 hp with hp | hp
      · exact h.kl p hp
      · simp at hp; rw [hp]; exact ⟨hi, hk, h8⟩
    · rcases List.mem_append.1 hp with hp | hp
      · exact h.ki p hp
      · simp at hp; rw [hp]; exact he
theorem GoodG.sign {s : Rg} (h : GoodG s) {x : ByteArray × ByteArray × ByteArray} (hx : x.1.size ≤ 1000 ∧ x.2.1.size ≤ 1000 ∧ x.2.2.size ≤ 100000) (hg : ∃ k, s.get x.1 = some k) : GoodG (s.sign x) := by
  refine ⟨h.kd, h.kl, h.ki, ?_, ?_, ?_⟩
  · show (Rg.signB s.bk x).Nodup
    unfold Rg.signB
    split
    · exact h.bd
    · rename_i hn; exact List.nodup_append.2 ⟨h.bd, by simp, by intro a ha b hb e; simp at hb; subst hb; subst e; exact hn ha⟩
  · intro p hp
    have hp : p ∈ Rg.signB s.bk x := hp
    unfold Rg.signB at hp
    split at hp
    · exact h.bl p hp
    · rcases List.mem_append.1 hp with hp | hp
      · exact h.bl p hp
      · simp at hp; rw [hp]; exact hx
  · intro p hp
    show ∃ k, s.get p.1 = some k
    have hp : p ∈ Rg.signB s.bk x := hp
    unfold Rg.signB at hp
    split at hp
    · exact h.bg p hp
    · rcases List.mem_append.1 hp with hp | hp
      · exact h.bg p hp
      · simp at hp; rw [hp]; exact hg
theorem GoodG.got {s : Rg} (h : GoodG s) {id : ByteArray} {k : List Nat} (hg : s.get id = some k) : (id, k) ∈ s.ks ∧ k.length = 32 ∧ ∀ x ∈ k, x < 256 := by
  unfold Rg.get at hg
  obtain ⟨p, hp, rfl⟩ := Option.map_eq_some_iff.1 hg
  have h1 := List.mem_of_find?_eq_some hp
  have h2 : p.1 = id := by have := List.find?_some hp; simpa using this
  obtain ⟨_, h3, h4⟩ := h.kl p h1
  exact ⟨by rw [← h2]; exact h1, h3, h4⟩
def keyP (p : ByteArray × List Nat) : Value × Value := (.string p.1, .agg (bytesV p.2))
/-- What stands in the book: the key, the domain, the message. -/
def entV (k : List Nat) (b c : ByteArray) : Value := .agg (bytesV k ++ #[.string b, .string c])
def bookP (s : Rg) (p : ByteArray × ByteArray × ByteArray) : Value × Value := (entV ((s.get p.1).getD []) p.2.1 p.2.2, .bool true)
theorem bytesV_inj {k l : List Nat} (h : bytesV k = bytesV l) : k = l := by
  have h1 := congrArg Array.size h
  rw [bytesV_size, bytesV_size] at h1
  refine List.ext_getElem h1 (fun i hi hi2 => ?_)
  have h2 := bytesV_at k i hi
  have h3 := bytesV_at l i hi2
  rw [h, h3] at h2
  have h4 : l.getD i 0 = k.getD i 0 := by
    injection h2 with h5
    injection h5 with _ h6
    omega
  rw [List.getD_eq_getElem?_getD, List.getD_eq_getElem?_getD, List.getElem?_eq_getElem hi, List.getElem?_eq_getElem hi2] at h4
  exact h4.symm
theorem entV_inj {k l : List Nat} {b c d e : ByteArray} (hk : k.length = 32) (hl : l.length = 32) (h : entV k b c = entV l d e) : k = l ∧ b = d ∧ c = e := by
  unfold entV at h
  injection h with h
  have h0 : (bytesV k).toList ++ [Value.string b, .string c] = (bytesV l).toList ++ [Value.string d, .string e] := by
    have := congrArg Array.toList h
    simpa using this
  have h1 := List.append_inj h0 (by simp [bytesV_size, hk, hl])
  refine ⟨bytesV_inj (Array.toList_inj.1 h1.1), ?_⟩
  simpa using h1.2
theorem bookP_inj {s : Rg} (h : GoodG s) {p q : ByteArray × ByteArray × ByteArray} (hp : ∃ k, s.get p.1 = some k) (hq : ∃ k, s.get q.1 = some k) (he : (bookP s p).1 = (bookP s q).1) : p = q := by
  obtain ⟨k, hk⟩ := hp
  obtain ⟨l, hl⟩ := hq
  unfold bookP at he
  rw [hk, hl] at he
  obtain ⟨k1, k2, -⟩ := h.got hk
  obtain ⟨l1, l2, -⟩ := h.got hl
  obtain ⟨e1, e2, e3⟩ := entV_inj k2 l2 he
  have e4 : p.1 = q.1 := by
    have a := h.ki _ k1
    have b := h.ki _ l1
    simp only at a b
    have e1 : k = l := e1
    rw [a, b, e1]
  obtain ⟨p1, p2, p3⟩ := p
  obtain ⟨q1, q2, q3⟩ := q
  simp only at e2 e3 e4
  rw [e2, e3, e4]
theorem bookP_add {s : Rg} (h : GoodG s) (id : ByteArray) (k : List Nat) : s.bk.map (bookP (s.add id k)) = s.bk.map (bookP s) := by
  refine List.map_congr_left (fun p hp => ?_)
  obtain ⟨k0, h0⟩ := h.bg p hp
  unfold bookP
  rw [Rg.get_add_keep h0, h0]
/-- A map that may be nil. -/
def MapO (w : World) : Option Nat → List (Value × Value) → Prop
  | none, L => L = []
  | some b, L => MapL w b L
theorem MapO.of {w w' : World} {o : Option Nat} {L : List (Value × Value)} (h : MapO w o L) (hb : ∀ k, o = some k → w'.heap[k]? = w.heap[k]?) : MapO w' o L := by
  cases o with
  | none => exact h
  | some b => exact mapL_of h (hb b rfl)
theorem ks_keys {s : Rg} (h : GoodG s) : ∀ p ∈ s.ks.map keyP, ∃ l, keyOf Tryd.prog 9 p.1 = some l := fun p hp => by
  obtain ⟨q, hq, rfl⟩ := List.mem_map.1 hp
  exact keyS q.1 (by have := (h.kl q hq).1; omega)
theorem bk_keys {s : Rg} (h : GoodG s) : ∀ p ∈ s.bk.map (bookP s), ∃ l, keyOf Tryd.prog 86 p.1 = some l := fun p hp => by
  obtain ⟨q, hq, rfl⟩ := List.mem_map.1 hp
  obtain ⟨h1, h2, h3⟩ := h.bl q hq
  obtain ⟨k, hk⟩ := h.bg q hq
  obtain ⟨-, k2, k3⟩ := h.got hk
  unfold bookP
  rw [hk]
  exact keyE k q.2.1 q.2.2 k2 k3 (by omega) (by omega)
/-- A key is looked up. -/
theorem ks_look {s : Rg} (h : GoodG s) {w : World} {o : Option Nat} (hm : MapO w o (s.ks.map keyP)) (id : ByteArray) (hi : id.size ≤ 1000) :
    (Instr.lookup 80 (.map o) (.string id) true).run Tryd.prog w = .ok (match s.get id with | none => .tuple #[.agg zeros32, .bool false] | some k => .tuple #[.agg (bytesV k), .bool true]) w := by
  obtain ⟨kl, hkl⟩ := keyS id (by omega)
  cases hg : s.get id with
  | none =>
    have hno : ∀ p ∈ s.ks.map keyP, p.1 ≠ .string id := fun p hp e => by
      obtain ⟨q, hq, rfl⟩ := List.mem_map.1 hp
      have e : q.1 = id := by simpa [keyP] using e
      unfold Rg.get at hg
      rw [Option.map_eq_none_iff, List.find?_eq_none] at hg
      exact hg q hq (by simpa using e)
    cases o with
    | none => exact look_nil kS mapKT (zK w) hkl true
    | some b => exact look_miss kS mapKT (zK w) hm (ks_keys h) hkl hno true
  | some k =>
    obtain ⟨h1, _, _⟩ := h.got hg
    cases o with
    | none =>
      have hm : s.ks.map keyP = [] := hm
      rw [List.map_eq_nil_iff] at hm
      rw [hm] at h1; exact absurd h1 (by simp)
    | some b =>
      refine look_hit kS mapKT hm (ks_keys h) hkl (v := .agg (bytesV k)) (List.mem_map.2 ⟨_, h1, rfl⟩) (fun p hp e => ?_) true
      obtain ⟨q, hq, rfl⟩ := List.mem_map.1 hp
      have e : q.1 = id := by simpa [keyP] using e
      have : q = (id, k) := by
        have hpw := h.kd
        rw [List.Nodup, List.pairwise_map] at hpw
        rcases List.pairwise_iff_getElem.1 hpw with hpw
        obtain ⟨i, hi, rfl⟩ := List.getElem_of_mem hq
        obtain ⟨j, hj, hje⟩ := List.getElem_of_mem h1
        rcases Nat.lt_trichotomy i j with hlt | heq | hlt
        · exact absurd (by rw [e, hje]) (hpw i j hi hj hlt)
        · subst heq; exact hje
        · exact absurd (by rw [e, hje]) (hpw j i hj hi hlt)
      rw [this]; rfl
/-- What was signed is looked up. -/
theorem bk_look {s : Rg} (h : GoodG s) {w : World} {o : Option Nat} (hm : MapO w o (s.bk.map (bookP s))) (a b c : ByteArray) (k : List Nat) (hk : s.get a = some k) (hb : b.size ≤ 1000) (hc : c.size ≤ 100000) :
    (Instr.lookup 81 (.map o) (entV k b c) false).run Tryd.prog w = .ok (.bool (decide ((a, b, c) ∈ s.bk))) w := by
  obtain ⟨-, k2, k3⟩ := h.got hk
  obtain ⟨kl, hkl⟩ := keyE k b c k2 k3 (by omega) (by omega)
  have hkl : keyOf Tryd.prog 86 (entV k b c) = some kl := hkl
  have hx : (bookP s (a, b, c)).1 = entV k b c := by unfold bookP; rw [hk]; rfl
  have he : ∀ q ∈ s.bk, (bookP s q).1 = entV k b c → q = (a, b, c) := fun q hq e => bookP_inj h (h.bg q hq) ⟨k, hk⟩ (e.trans hx.symm)
  by_cases hin : (a, b, c) ∈ s.bk
  · rw [decide_eq_true hin]
    cases o with
    | none =>
      have hm : s.bk.map (bookP s) = [] := hm
      rw [List.map_eq_nil_iff] at hm
      rw [hm] at hin; exact absurd hin (by simp)
    | some g => exact look_hit kE mapET hm (bk_keys h) hkl (v := .bool true) (List.mem_map.2 ⟨_, hin, Prod.ext hx rfl⟩) (fun p hp e => by
        obtain ⟨q, hq, rfl⟩ := List.mem_map.1 hp; rfl) false
  · rw [decide_eq_false hin]
    cases o with
    | none => exact look_nil kE mapET (zB w) hkl false
    | some g => exact look_miss kE mapET (zB w) hm (bk_keys h) hkl (fun p hp e => by
        obtain ⟨q, hq, rfl⟩ := List.mem_map.1 hp
        rw [he q hq e] at hq; exact hin hq) false
/-- A key is put. -/
theorem ks_put {s : Rg} (h : GoodG s) {w : World} {g : Nat} (hm : MapL w g (s.ks.map keyP)) (id : ByteArray) (k : List Nat) (hi : id.size ≤ 1000) (hg : s.get id = none) :
    ∃ es' clock', (∀ W : World, W.heap[g]? = w.heap[g]? → (Instr.mapUpdate 80 (.map (some g)) (.string id) (.agg (bytesV k))).run Tryd.prog W = .ok () (setBlock W g (.map es' clock'))) ∧ es'.toList.map (fun x => (x.key, x.val)) = (s.add id k).ks.map keyP := by
  obtain ⟨kl, hkl⟩ := keyS id (by omega)
  have hno : ∀ p ∈ s.ks.map keyP, p.1 ≠ .string id := fun p hp e => by
    obtain ⟨q, hq, rfl⟩ := List.mem_map.1 hp
    exact Rg.get_miss hg q hq (by simpa [keyP] using e)
  obtain ⟨es', cl', h1, h2⟩ := put_miss kS mapKT hm (ks_keys h) (v := .agg (bytesV k)) hkl hno
  refine ⟨es', cl', h1, ?_⟩
  rw [h2, Rg.add_new hg]
  show _ = (s.ks ++ [(id, k)]).map keyP
  rw [List.map_append]
  rfl
/-- What is signed is put. -/
theorem bk_put {s : Rg} (h : GoodG s) {w : World} {g : Nat} (hm : MapL w g (s.bk.map (bookP s))) (a b c : ByteArray) (k : List Nat) (hk : s.get a = some k) (hb : b.size ≤ 1000) (hc : c.size ≤ 100000) :
    ∃ es' clock', (∀ W : World, W.heap[g]? = w.heap[g]? → (Instr.mapUpdate 81 (.map (some g)) (entV k b c) (.bool true)).run Tryd.prog W = .ok () (setBlock W g (.map es' clock'))) ∧ es'.toList.map (fun x => (x.key, x.val)) = (s.sign (a, b, c)).bk.map (bookP s) := by
  obtain ⟨-, k2, k3⟩ := h.got hk
  obtain ⟨kl, hkl⟩ := keyE k b c k2 k3 (by omega) (by omega)
  have hkl : keyOf Tryd.prog 86 (entV k b c) = some kl := hkl
  have hx : (bookP s (a, b, c)).1 = entV k b c := by unfold bookP; rw [hk]; rfl
  have he : ∀ q ∈ s.bk, (bookP s q).1 = entV k b c → q = (a, b, c) := fun q hq e => bookP_inj h (h.bg q hq) ⟨k, hk⟩ (e.trans hx.symm)
  show ∃ es' clock', _ ∧ _ = (Rg.signB s.bk (a, b, c)).map (bookP s)
  unfold Rg.signB
  by_cases hin : (a, b, c) ∈ s.bk
  · rw [if_pos hin]
    have hd : (s.bk.map (bookP s)).Pairwise (fun p q => p.1 ≠ q.1) := by
      rw [List.pairwise_map]
      refine List.Pairwise.imp_of_mem (fun {p q} hp hq hab e => hab (bookP_inj h (h.bg p hp) (h.bg q hq) e)) h.bd
    obtain ⟨es', cl', L1, L2, v0, h1, h2, h3⟩ := put_hit kE mapET hm (bk_keys h) (v := .bool true) hkl ⟨_, List.mem_map.2 ⟨_, hin, rfl⟩, hx⟩ hd
    refine ⟨es', cl', h1, ?_⟩
    have hv : v0 = .bool true := by
      have : (entV k b c, v0) ∈ s.bk.map (bookP s) := by rw [h2]; simp
      obtain ⟨q, hq, hqe⟩ := List.mem_map.1 this
      exact (congrArg Prod.snd hqe).symm
    rw [h3, h2, hv]
  · rw [if_neg hin]
    obtain ⟨es', cl', h1, h2⟩ := put_miss kE mapET hm (bk_keys h) (v := .bool true) hkl (fun p hp e => by
      obtain ⟨q, hq, rfl⟩ := List.mem_map.1 hp
      rw [he q hq e] at hq; exact hin hq)
    refine ⟨es', cl', h1, ?_⟩
    rw [h2, List.map_append, List.map_singleton]
    have : bookP s (a, b, c) = (entV k b c, .bool true) := Prod.ext hx rfl
    rw [this]
end Go.Proofs.YtgdnndapmcjoeaaDoor
namespace Go.Proofs.YtgdnndapmcjoeaaDoor
open Go.RowKit Go.Maps
open Go.ChangeMaps (setBlock)
set_option linter.unusedVariables false
/-- What a call that turns one of a ring's maps leaves. -/
structure TurnG (w w' : World) (b : Nat) (old : Option Nat) (g : Nat) (L : List (Value × Value)) : Prop where
  upto : Upto (fun k => k = b ∨ old = some k) w w'
  map : MapL w' g L
  from_ : old = some g ∨ old = none ∧ w.heap.size ≤ g
theorem upto_setB {w w5 : World} {b n : Nat} {old : Option Nat} {g : Nat} (h : Upto (fun k => k = b ∨ old = some k) w w5) (hg : old = some g ∨ w.heap.size ≤ g) (o : Obj) : Upto (fun k => k = b ∨ old = some k) w (setBlock (w5.drewN n) g o) := by
  have h2 := setB_grown (w := w5.drewN n) (b := g) o
  refine ⟨h2.os.trans h.os, h2.tape.trans h.tape, h2.output.trans h.output, Nat.le_trans h.size h2.size, fun k hk hn => ?_⟩
  refine (h2.block k (Nat.lt_of_lt_of_le hk h.size) (fun e => ?_)).trans (h.block k hk hn)
  have e := Option.some.inj e
  subst e
  rcases hg with hg | hg
  · exact hn (.inr hg)
  · omega
set_option maxRecDepth 100000 in
set_option maxHeartbeats 400000 in
theorem gadd_wrong (A : Nat → Addr) (w : World) (b : Nat) (va : Option Addr) (n vc : Nat) (hn : n ≠ 32) (hn2 : n ≤ 9223372036854775807) (hE : AllErrs w A) :
    Calls Tryd.prog 18 #[.pointer (some ⟨b, 0, none⟩), .slice va n vc] w fun e w' => e = .returned (.tuple #[.string ⟨#[]⟩, errV A 4]) ∧ w.grownBy w' none := by
  have e4 := err_form hE
  have d1 : ((n : Int) != 32) = true := by simp; omega
  clear hE
  go_enter Tryd.func18, Tryd.ntmps18
  go_wp2
  go_quiet (fail)
  go_wp2
  go_returns
  exact ⟨rfl, grown_drewN (grown_refl _ _) _⟩
set_option maxRecDepth 100000 in
set_option maxHeartbeats 400000 in
/-- Whether it has a key. -/
theorem ghas_any (w : World) (b : Nat) (mk : Option Nat) (ov : Value) (s : Rg) (id : ByteArray) (hi : id.size ≤ 1000) (hs : GoodG s) (hm : MapO w mk (s.ks.map keyP)) (hb : w.heap[b]? = some (.cells #[.map mk, ov] 83 (0, 0))) :
    Calls Tryd.prog 17 #[.pointer (some ⟨b, 0, none⟩), .string id] w fun e w' => e = .returned (.bool (s.get id).isSome) ∧ w.grownBy w' none := by
  have c0 := cell_blk hb 0 rfl
  have hl := ks_look hs hm id hi
  obtain ⟨K, q, hK, hq, hlk⟩ : ∃ (K : Array Value) (q : Bool), K.size = 32 ∧ q = (s.get id).isSome ∧ (Instr.lookup 80 (.map mk) (.string id) true).run Tryd.prog w = .ok (.tuple #[.agg K, .bool q]) w ∧ K.all (·.oneCell') = true := by
    cases hg : s.get id with
    | none => exact ⟨zeros32, false, rfl, rfl, by rw [hl, hg], bytesV_one _⟩
    | some k => exact ⟨bytesV k, true, by rw [bytesV_size, (hs.got hg).2.1], rfl, by rw [hl, hg], bytesV_one _⟩
  have Z0 := Lib.hid (alloc_at w (.cells zeros32 64))
  have HI : Hid ((Tryd.prog.info? 64).map (·.size) = some K.size) := Lib.hid (by rw [hK]; kernel_rfl)
  have HIz : Hid (zeros32.size = K.size) := Lib.hid (by rw [hK]; rfl)
  have HO := Lib.hid hlk.2
  have hlk := hlk.1
  have hz32 := zeros32_at w
  rw [← hq]
  clear hq hl hm hs hb hi hK
  go_enter Tryd.func17, Tryd.ntmps17
  go_wp2_with (refine wpList_store_row (by rfl) 64 (.tmp 5) (.tmp 14) (by rfl) w.heap.size K (by rfl) (by rfl) _ _ Z0.out HI.out HIz.out HO.out ?_)
  go_ret
  exact ⟨rfl, grown_setRow (World.grownBy_alloc _ _ _) (Nat.le_refl _) _⟩
set_option maxRecDepth 100000 in
set_option maxHeartbeats 1000000 in
/-- A key's number that it has already. -/
theorem gadd_has (A : Nat → Addr) (w : World) (b : Nat) (mk : Option Nat) (ov : Value) (s : Rg) (va : Option Addr) (vc : Nat) (k k0 : List Nat) (hs : GoodG s) (hm : MapO w mk (s.ks.map keyP)) (hb : w.heap[b]? = some (.cells #[.map mk, ov] 83 (0, 0))) (hE : AllErrs w A) (hL : Laid w)
    (hk : k.length = 32) (hB : Bytes w (.slice va 32 vc) k) (hg : s.get (idText k) = some k0) :
    Calls Tryd.prog 18 #[.pointer (some ⟨b, 0, none⟩), .slice va 32 vc] w fun e w' => e = .returned (.tuple #[.string (idText k), .nilIface]) ∧ w.grownBy w' none := by
  obtain ⟨Y, hY⟩ : ∃ Y, Y = idText k := ⟨_, rfl⟩
  have hYs : Y.size = 32 := by
    rw [hY, idText, strOf_size, hexL_len, List.length_take, hmac_len]; rfl
  have HID : Hid (Calls Tryd.prog 32 #[.slice va 32 vc] w fun e w' => e = .returned (.string Y) ∧ w.grownBy w' none) := Lib.hid (by
    have := macID_any (.slice va 32 vc) k w hB (by omega) hL _ _ (errs_of_all2 hE)
    rw [hY]; exact this)
  have HHs : Hid (∀ W, w.grownBy W none → Calls Tryd.prog 17 #[.pointer (some ⟨b, 0, none⟩), .string Y] W fun e w' => e = .returned (.bool true) ∧ W.grownBy w' none) := Lib.hid (fun W hW => by
    have := ghas_any W b mk ov s Y (by omega) hs (hm.of (fun q hq => hW.block q (by subst hq; exact MapL.lt hm) (by simp))) ((hW.block _ (blk_lt hb) (by simp)).trans hb)
    rw [hY, hg] at this
    rw [hY]; exact this)
  rw [← hY]
  clear hb hE hL hk hB hY hYs hm hs hg
  go_enter Tryd.func18, Tryd.ntmps18
  go_wp2_with (first
    | (go_at_call 32; refine HID.out.mono ?_; rintro e w1 ⟨rfl, hg1⟩; have G1 := Lib.hid hg1; clear hg1)
    | (go_at_call 17; refine (HHs.out w1 G1.out).mono ?_; rintro e w2 ⟨rfl, hg2⟩; have G2 := Lib.hid (grown_trans G1.out hg2); clear hg2))
  go_returns
  exact ⟨rfl, G2.out⟩
set_option maxRecDepth 100000 in
set_option maxHeartbeats 1000000 in
/-- Where it has keys. -/
theorem gadd_some (A : Nat → Addr) (w : World) (b g : Nat) (ov : Value) (s : Rg) (va : Option Addr) (vc : Nat) (k : List Nat) (hs : GoodG s) (hm : MapL w g (s.ks.map keyP)) (hb : w.heap[b]? = some (.cells #[.map (some g), ov] 83 (0, 0))) (hE : AllErrs w A) (hL : Laid w)
    (hk : k.length = 32) (hB : Bytes w (.slice va 32 vc) k) (hgt : s.get (idText k) = none) :
    Calls Tryd.prog 18 #[.pointer (some ⟨b, 0, none⟩), .slice va 32 vc] w fun e w' => e = .returned (.tuple #[.string (idText k), .nilIface]) ∧ TurnG w w' b (some g) g ((s.add (idText k) k).ks.map keyP) ∧ (b ≠ g → w'.heap[b]? = w.heap[b]?) := by
  obtain ⟨K, hK⟩ : ∃ K, K = bytesV k := ⟨_, rfl⟩
  have hKs : K.size = 32 := by rw [hK, bytesV_size, hk]
  have HDd : Hid (bytesV (k ++ (List.replicate 32 0).drop k.length) = K) := Lib.hid (by rw [hK, hk]; simp)
  have HZl : Hid ((List.replicate 32 0 : List Nat).length = 32) := Lib.hid rfl
  have HK32 : Hid (k.length ≤ 32) := Lib.hid (by omega)
  have HB := Lib.hid hB
  have HIr : Hid ((Tryd.prog.info? 64).map (·.size) = some K.toList.length) := Lib.hid (by rw [Array.length_toList, hKs]; kernel_rfl)
  obtain ⟨Y, hY⟩ : ∃ Y, Y = idText k := ⟨_, rfl⟩
  have hYs : Y.size = 32 := by
    rw [hY, idText, strOf_size, hexL_len, List.length_take, hmac_len]; rfl
  have HID : Hid (∀ W, w.grownBy W none → Calls Tryd.prog 32 #[.slice va 32 vc] W fun e w' => e = .returned (.string Y) ∧ W.grownBy w' none) := Lib.hid (fun W hW => by
    have := macID_any (.slice va 32 vc) k W (hB.grown hW) (by omega) (hL.grown hW (by simp) (by simp)) _ _ (errs_of_all2 (hE.grown hW))
    rw [hY]; exact this)
  have HHs : Hid (∀ W, w.grownBy W none → Calls Tryd.prog 17 #[.pointer (some ⟨b, 0, none⟩), .string Y] W fun e w' => e = .returned (.bool false) ∧ W.grownBy w' none) := Lib.hid (fun W hW => by
    have := ghas_any W b (some g) ov s Y (by omega) hs (mapL_of hm (hW.block g hm.lt (by simp))) ((hW.block _ (blk_lt hb) (by simp)).trans hb)
    rw [hY, hgt] at this
    rw [hY]; exact this)
  obtain ⟨es', cl', hu, hes⟩ := ks_put hs hm Y k (by omega) (by rw [hY]; exact hgt)
  rw [← hK] at hu
  rw [← hY, ← hes]
  have HU := Lib.hid hu
  have HGL : Hid (g < w.heap.size) := Lib.hid hm.lt
  have HBB := Lib.hid hb
  clear hb hE hL hK hKs hk hB hY hYs hu hes hm hs hgt
  go_enter Tryd.func18, Tryd.ntmps18
  go_wp2_with (first
    | (go_at_call 32; refine (HID.out w (grown_refl _ _)).mono ?_; rintro e w1 ⟨rfl, hg1⟩; have G1 := Lib.hid hg1; clear hg1)
    | (go_at_call 17; refine (HHs.out w1 G1.out).mono ?_; rintro e w2 ⟨rfl, hg2⟩; have G2 := Lib.hid (grown_trans G1.out hg2); have hq := run_eql_map_nil (P := Tryd.prog) w2 (some g) mapKT; have hz32 := zeros32_at w2; have c0 : w2.cell? ⟨b, 0, none⟩ = some (.map (some g)) := (by rw [World.cell?_of_block (G2.out.block b (blk_lt HBB.out) (by simp))]; exact cell_blk HBB.out 0 rfl); clear hg2)
    | (refine wpList_copyB (by rfl) (.tmp 27) (.tmp 28) 22 22 (by rfl) Tryd.underlying22 (by kernel_rfl) (b := w2.heap.size) (N := 32) (Z := List.replicate 32 0) (l := k) (T := 64) (v := .slice va 32 vc) (by rfl) (by rfl) (alloc_at w2 _) HZl.out (HB.out.grown (grown_trans G2.out (World.grownBy_alloc _ _ _))) HK32.out ?_; intro w3 hb3 hg3; rw [HDd.out] at hb3; have B3 := Lib.hid hb3; have G3 : Hid (w.grownBy w3 none) := Lib.hid (grown_trans G2.out (grown_forget (World.grownBy_alloc w2 _ none) (Nat.le_refl _) hg3)); clear hb3 hg3))
  refine wp_region_quiet_tail (fun w' => ∃ n, w' = w3.drewN n) 6 (by kernel_rfl) (by kernel_rfl) ⟨1, rfl⟩ ?_
  simp only [List.take_succ_cons, List.take_zero, List.drop_succ_cons, List.drop_zero, Act.put, List.setIfInBounds_toArray, List.set_cons_succ, List.set_cons_zero]
  have c3 : w3.cell? ⟨b, 0, none⟩ = some (.map (some g)) := by
    rw [World.cell?_of_block (G3.out.block b (blk_lt HBB.out) (by simp))]; exact cell_blk HBB.out 0 rfl
  iterate 5 (go_big_quiet_step (fail))
  refine wpQuiet_load_mid (by rfl) 64 (.tmp 7) (by rfl) w2.heap.size 0 (by rfl) K.toList _ (fun w' hw' => by
    obtain ⟨n, rfl⟩ := hw'
    exact range_all (w := w3) B3.out) Tryd.underlying64 rfl HIr.out ?_
  refine wpQuiet_nil ?_
  rintro _ ⟨n3, rfl⟩
  simp only [Act.put, List.setIfInBounds_toArray, List.set_cons_succ, List.set_cons_zero]
  refine wpList_upd (by rfl) (.tmp 33) (.tmp 34) (.tmp 35) (by rfl) _ _ _ (by rfl) (by rfl) (by rfl) (HU.out (w3.drewN n3) (G3.out.block g HGL.out (by simp))) ?_
  go_wp2
  go_returns
  refine ⟨rfl, ⟨upto_setB (Upto.of_grown _ G3.out) (.inl rfl) _, mapL_set (Nat.lt_of_lt_of_le HGL.out G3.out.size) _ _, .inl rfl⟩, fun hne => ?_⟩
  have hbl := blk_lt HBB.out
  exact ((setB_grown (w := w3.drewN n3) (b := g) _).block b (Nat.lt_of_lt_of_le hbl G3.out.size) (fun e => hne (Option.some.inj e))).trans (G3.out.block b hbl (by simp))
end Go.Proofs.YtgdnndapmcjoeaaDoor
namespace Go.Proofs.YtgdnndapmcjoeaaDoor
open Go.RowKit Go.Maps
open Go.ChangeMaps (setBlock)
set_option linter.unusedVariables false
/-- A first map of a ring is made. -/
theorem made_map0 {w : World} {b : Nat} {ov : Value} (hb : w.heap[b]? = some (.cells #[.map none, ov] 83 (0, 0))) :
    ∃ W1, W1 = (w.alloc (.map #[] 0)).setCell ⟨b, 0, none⟩ (.map (some w.heap.size)) ∧ W1.heap.size = w.heap.size + 1 ∧ MapL W1 w.heap.size [] ∧ W1.heap[b]? = some (.cells #[.map (some w.heap.size), ov] 83 (0, 0)) ∧ Upto (fun k => k = b) w W1 := by
  have hbl := blk_lt hb
  refine ⟨_, rfl, by rw [setCell_size, alloc_size], mapL_of (mapL_new w) (Below.heap_setCell _ _ _ _ (by show ¬ w.heap.size = b; omega)), ?_, rfl, rfl, rfl, by rw [setCell_size, alloc_size]; omega, fun k hk hn => ?_⟩
  · have := setCell_heap (i := 0) (alloc_keep (o := .map #[] 0) hb) (.map (some w.heap.size))
    simpa using this
  · exact (Below.heap_setCell _ _ _ _ hn).trans (alloc_old _ _ _ hk)
set_option maxRecDepth 100000 in
set_option maxHeartbeats 1000000 in
/-- Where it has none. -/
theorem gadd_none (A : Nat → Addr) (W0 w : World) (b : Nat) (ov : Value) (s : Rg) (va : Option Addr) (vc : Nat) (k : List Nat) (hs : GoodG s) (he : s.ks = []) (hb : w.heap[b]? = some (.cells #[.map none, ov] 83 (0, 0))) (hE : AllErrs W0 A) (hL : Laid W0) (h0 : W0.grownBy w none) (hb0 : W0.heap.size ≤ b)
    (hk : k.length = 32) (hB : ∀ W, Upto (fun j => j = b) w W → Bytes W (.slice va 32 vc) k) :
    Calls Tryd.prog 18 #[.pointer (some ⟨b, 0, none⟩), .slice va 32 vc] w fun e w' => ∃ g, e = .returned (.tuple #[.string (idText k), .nilIface]) ∧ TurnG w w' b none g ((s.add (idText k) k).ks.map keyP) ∧ w'.heap[b]? = some (.cells #[.map (some g), ov] 83 (0, 0)) := by
  have hgt : s.get (idText k) = none := by unfold Rg.get; rw [he]; rfl
  obtain ⟨K, hK⟩ : ∃ K, K = bytesV k := ⟨_, rfl⟩
  have hKs : K.size = 32 := by rw [hK, bytesV_size, hk]
  have HDd : Hid (bytesV (k ++ (List.replicate 32 0).drop k.length) = K) := Lib.hid (by rw [hK, hk]; simp)
  have HZl : Hid ((List.replicate 32 0 : List Nat).length = 32) := Lib.hid rfl
  have HK32 : Hid (k.length ≤ 32) := Lib.hid (by omega)
  have HB := Lib.hid hB
  have HIr : Hid ((Tryd.prog.info? 64).map (·.size) = some K.toList.length) := Lib.hid (by rw [Array.length_toList, hKs]; kernel_rfl)
  obtain ⟨Y, hY⟩ : ∃ Y, Y = idText k := ⟨_, rfl⟩
  have hYs : Y.size = 32 := by
    rw [hY, idText, strOf_size, hexL_len, List.length_take, hmac_len]; rfl
  have HID : Hid (Calls Tryd.prog 32 #[.slice va 32 vc] w fun e w' => e = .returned (.string Y) ∧ w.grownBy w' none) := Lib.hid (by
    have := macID_any (.slice va 32 vc) k w (hB w (Upto.refl _ _)) (by omega) (hL.grown h0 (by simp) (by simp)) _ _ (errs_of_all2 (hE.grown h0))
    rw [hY]; exact this)
  have HHs : Hid (∀ W, w.grownBy W none → Calls Tryd.prog 17 #[.pointer (some ⟨b, 0, none⟩), .string Y] W fun e w' => e = .returned (.bool false) ∧ W.grownBy w' none) := Lib.hid (fun W hW => by
    have := ghas_any W b none ov s Y (by omega) hs (by rw [he]; rfl) ((hW.block _ (blk_lt hb) (by simp)).trans hb)
    rw [hY, hgt] at this
    rw [hY]; exact this)
  obtain ⟨L, hLs⟩ : ∃ L, L = (s.add Y k).ks.map keyP := ⟨_, rfl⟩
  have HU : Hid (∀ (W : World) (g : Nat), MapL W g [] → ∃ es' clock', (∀ X : World, X.heap[g]? = W.heap[g]? → (Instr.mapUpdate 80 (.map (some g)) (.string Y) (.agg K)).run Tryd.prog X = .ok () (setBlock X g (.map es' clock'))) ∧ es'.toList.map (fun x => (x.key, x.val)) = L) := Lib.hid (fun W g hm => by
    rw [hLs, hK]
    exact ks_put hs (w := W) (g := g) (by rw [he]; exact hm) Y k (by omega) (by rw [hY]; exact hgt))
  rw [← hY, ← hLs]
  have HBB := Lib.hid hb
  have hmm := @run_makeMap Tryd.prog
  clear hb hE hL hK hKs hk hB hY hYs he hs h0 hb0 hgt hLs
  go_enter Tryd.func18, Tryd.ntmps18
  go_wp2_with (first
    | (go_at_call 32; refine HID.out.mono ?_; rintro e w1 ⟨rfl, hg1⟩; have G1 := Lib.hid hg1; clear hg1)
    | (go_at_call 17; refine (HHs.out w1 G1.out).mono ?_; rintro e w2 ⟨rfl, hg2⟩; have G2 := Lib.hid (grown_trans G1.out hg2); have hq := run_eql_map_nil (P := Tryd.prog) w2 none mapKT; have hz32 := zeros32_at w2; have hb2 := (G2.out.block b (blk_lt HBB.out) (by simp)).trans HBB.out; have HB2 := Lib.hid hb2; have c0 := cell_blk hb2 0 rfl; have f1 : (w2.alloc (.map #[] 0)).frozen? ⟨b, 0, none⟩ = false := free_blk (alloc_keep hb2) 0; have c1 : (w2.alloc (.map #[] 0)).cell? ⟨b, 0, none⟩ = some (.map none) := cell_blk (alloc_keep hb2) 0 rfl; obtain ⟨W1, hW1, s1, m1, b1, u1⟩ := made_map0 hb2; have HW1 := Lib.hid hW1; have HS1 := Lib.hid s1; have HM1 := Lib.hid m1; have HB1 := Lib.hid b1; have U1 : Hid (Upto (fun j => j = b) w W1) := Lib.hid ((Upto.of_grown (fun j => j = b) G2.out).trans u1 (fun _ _ h => h)); clear hg2 hb2 hW1 s1 m1 b1 u1)
    | (rw [← HW1.out]; refine wpList_copyB (by rfl) (.tmp 27) (.tmp 28) 22 22 (by rfl) Tryd.underlying22 (by kernel_rfl) (b := W1.heap.size) (N := 32) (Z := List.replicate 32 0) (l := k) (T := 64) (v := .slice va 32 vc) (by rw [HS1.out]; rfl) (by rfl) (alloc_at W1 _) HZl.out ((HB.out W1 U1.out).grown (World.grownBy_alloc _ _ _)) HK32.out ?_; intro w3 hb3 hg3; rw [HDd.out] at hb3; have B3 := Lib.hid hb3; have G3 : Hid (W1.grownBy w3 none) := Lib.hid (grown_forget (World.grownBy_alloc W1 _ none) (Nat.le_refl _) hg3); clear hb3 hg3))
  obtain ⟨es', cl', hu, hes⟩ := HU.out W1 w2.heap.size HM1.out
  have HU2 := Lib.hid hu
  have HES := Lib.hid hes
  clear hu hes
  refine wp_region_quiet_tail (fun w' => ∃ n, w' = w3.drewN n) 6 (by kernel_rfl) (by kernel_rfl) ⟨1, rfl⟩ ?_
  simp only [List.take_succ_cons, List.take_zero, List.drop_succ_cons, List.drop_zero, Act.put, List.setIfInBounds_toArray, List.set_cons_succ, List.set_cons_zero]
  have c3 : w3.cell? ⟨b, 0, none⟩ = some (.map (some w2.heap.size)) := by
    rw [World.cell?_of_block (G3.out.block b (blk_lt HB1.out) (by simp))]; exact cell_blk HB1.out 0 rfl
  iterate 5 (go_big_quiet_step (fail))
  refine wpQuiet_load_mid (by rfl) 64 (.tmp 7) (by rfl) W1.heap.size 0 (by rw [HS1.out]; rfl) K.toList _ (fun w' hw' => by
    obtain ⟨n, rfl⟩ := hw'
    exact range_all (w := w3) B3.out) Tryd.underlying64 rfl HIr.out ?_
  refine wpQuiet_nil ?_
  rintro _ ⟨n3, rfl⟩
  simp only [Act.put, List.setIfInBounds_toArray, List.set_cons_succ, List.set_cons_zero]
  have hg1 : w2.heap.size < W1.heap.size := by rw [HS1.out]; omega
  have Hg1 := Lib.hid hg1
  refine wpList_upd (by rfl) (.tmp 33) (.tmp 34) (.tmp 35) (by rfl) _ _ _ (by rfl) (by rfl) (by rfl) (HU2.out (w3.drewN n3) (G3.out.block w2.heap.size hg1 (by simp))) ?_
  clear hg1
  go_wp2
  go_returns
  have hg1 := Hg1.out
  have h2 := G2.out.size
  refine ⟨_, rfl, ⟨upto_setB ((U1.out.mono (fun k _ hk => .inl hk)).trans (Upto.of_grown (fun _ => False) G3.out) (fun _ _ h => h.elim)) (.inr h2) _, by rw [← HES.out]; exact mapL_set (Nat.lt_of_lt_of_le hg1 G3.out.size) _ _, .inr ⟨rfl, h2⟩⟩, ?_⟩
  refine ((setB_grown (w := w3.drewN n3) (b := w2.heap.size) _).block b (blk_lt ((G3.out.block b (blk_lt HB1.out) (by simp)).trans HB1.out)) (fun e => ?_)).trans ((G3.out.block b (blk_lt HB1.out) (by simp)).trans HB1.out)
  have := Option.some.inj e
  have := blk_lt HB2.out
  omega
end Go.Proofs.YtgdnndapmcjoeaaDoor
