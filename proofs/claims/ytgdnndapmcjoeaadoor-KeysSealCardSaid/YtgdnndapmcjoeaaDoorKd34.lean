import Derived.Test.YtgdnndapmcjoeaaDoorKd24
import Derived.Test.YtgdnndapmcjoeaaDoorKd33
namespace Go.Proofs.YtgdnndapmcjoeaaDoor
open Go.RowKit Go.Maps
open Go.ChangeMaps (setBlock)
set_option linter.unusedVariables false
instance decMem3 (x : ByteArray × ByteArray × ByteArray) (l : List (ByteArray × ByteArray × ByteArray)) : Decidable (x ∈ l) := decidable_of_iff (∃ y ∈ l, y = x) (by simp)
/-- Keys by their numbers, and what was signed. -/
structure Rg where
  ks : List (ByteArray × List Nat)
  bk : List (ByteArray × ByteArray × ByteArray)
namespace Rg
def get (s : Rg) (id : ByteArray) : Option (List Nat) := (s.ks.find? (fun p => decide (p.1 = id))).map (·.2)
def add (s : Rg) (id : ByteArray) (k : List Nat) : Rg := if (s.get id).isSome then s else { s with ks := s.ks ++ [(id, k)] }
def signB (l : List (ByteArray × ByteArray × ByteArray)) (x : ByteArray × ByteArray × ByteArray) : List (ByteArray × ByteArray × ByteArray) := if x ∈ l then l else l ++ [x]
def sign (s : Rg) (x : ByteArray × ByteArray × ByteArray) : Rg := { s with bk := signB s.bk x }
def none : Rg := ⟨[], []⟩
theorem add_has {s : Rg} {id : ByteArray} {k k0 : List Nat} (h : s.get id = some k0) : s.add id k = s := by unfold add; rw [h]; rfl
theorem add_new {s : Rg} {id : ByteArray} {k : List Nat} (h : s.get id = Option.none) : s.add id k = { s with ks := s.ks ++ [(id, k)] } := by unfold add; rw [h]; rfl
theorem add_bk (s : Rg) (id : ByteArray) (k : List Nat) : (s.add id k).bk = s.bk := by unfold add; split <;> rfl
theorem get_append (s : Rg) (l : List (ByteArray × List Nat)) (i : ByteArray) : get { s with ks := s.ks ++ l } i = (s.get i).or ((l.find? (fun p => decide (p.1 = i))).map (·.2)) := by
  unfold get
  show ((s.ks ++ l).find? _).map _ = _
  rw [List.find?_append]
  cases s.ks.find? (fun p => decide (p.1 = i)) <;> rfl
theorem get_add_same {s : Rg} {id : ByteArray} {k : List Nat} (h : s.get id = Option.none) : (s.add id k).get id = some k := by
  rw [add_new h, get_append, h]
  simp
theorem get_add_other {s : Rg} {id i : ByteArray} {k : List Nat} (hne : i ≠ id) : (s.add id k).get i = s.get i := by
  cases h : s.get id with
  | some k0 => rw [add_has h]
  | none =>
    rw [add_new h, get_append]
    simp [Ne.symm hne]
theorem get_add_keep {s : Rg} {id i : ByteArray} {k k0 : List Nat} (h : s.get i = some k0) : (s.add id k).get i = some k0 := by
  cases h2 : s.get id with
  | some k1 => rw [add_has h2, h]
  | none => rw [add_new h2, get_append, h]; rfl
theorem get_miss {s : Rg} {id : ByteArray} (h : s.get id = Option.none) : ∀ p ∈ s.ks, p.1 ≠ id := fun p hp e => by
  unfold get at h
  rw [Option.map_eq_none_iff, List.find?_eq_none] at h
  exact h p hp (by simpa using e)
end Rg
/-- What is right of it. -/
structure GoodG (s : Rg) : Prop where
  kd : (s.ks.map (·.1)).Nodup
  kl : ∀ p ∈ s.ks, p.1.size ≤ 1000 ∧ p.2.length = 32 ∧ ∀ x ∈ p.2, x < 256
  ki : ∀ p ∈ s.ks, p.1 = idText p.2
  bd : s.bk.Nodup
  bl : ∀ p ∈ s.bk, p.1.size ≤ 1000 ∧ p.2.1.size ≤ 1000 ∧ p.2.2.size ≤ 100000
  bg : ∀ p ∈ s.bk, ∃ k, s.get p.1 = some k
theorem good_none : GoodG Rg.none := ⟨by simp [Rg.none], by simp [Rg.none], by simp [Rg.none], by simp [Rg.none], by simp [Rg.none], by simp [Rg.none]⟩
theorem GoodG.add {s : Rg} (h : GoodG s) {id : ByteArray} {k : List Nat} (hi : id.size ≤ 1000) (hk : k.length = 32) (h8 : ∀ x ∈ k, x < 256) (he : id = idText k) : GoodG (s.add id k) := by
  cases hg : s.get id with
  | some k0 => rw [Rg.add_has hg]; exact h
  | none =>
    have hno := Rg.get_miss hg
    have hbg : ∀ p ∈ (s.add id k).bk, ∃ k0, (s.add id k).get p.1 = some k0 := fun p hp => by
      rw [Rg.add_bk] at hp
      obtain ⟨k0, h0⟩ := h.bg p hp
      exact ⟨k0, Rg.get_add_keep h0⟩
    rw [Rg.add_new hg] at hbg ⊢
    refine ⟨?_, fun p hp => ?_, fun p hp => ?_, h.bd, h.bl, hbg⟩
    · show ((s.ks ++ [(id, k)]).map _).Nodup
      rw [List.map_append, List.nodup_append]
      refine ⟨h.kd, by simp, fun a ha b hb e => ?_⟩
      obtain ⟨p, hp, rfl⟩ := List.mem_map.1 ha
      simp at hb
      exact hno p hp (e.trans hb)
    · rcases List.mem_append.1 hp with hp | hp
      · exact h.kl p hp
      · simp at hp; rw [hp]; exact ⟨hi, hk, h8⟩
    · rcases List.mem_append.1 hp with hp | hp
      · exact h.ki p hp
      · simp at hp; rw [hp]; exact he
theorem GoodG.sign {s : Rg} (h : GoodG s) {x : ByteArray × ByteArray × ByteArray} (hx : x.1.size ≤ 1000 ∧ x.2.1.size ≤ 1000 ∧ x.2.2.size ≤ 100000) (hg : ∃ k, s.get x.1 = some k) : GoodG (s.sign x) := by
  refine ⟨h.kd, h.kl, h.ki, ?_, ?_, ?_⟩
  · show (Rg.signB s.bk x).Nodup
    unfold Rg.signB
    split
    · exact h.bd
    · rename_i hn; exact List.nodup_append.2 ⟨h.bd, by simp, by intro a ha b hb e; simp at hb; subst hb; subst e; exact hn ha⟩
  · intro p hp
    have hp : p ∈ Rg.signB s.bk x := hp
    unfold Rg.signB at hp
    split at hp
    · exact h.bl p hp
    · rcases List.mem_append.1 hp with hp | hp
      · exact h.bl p hp
      · simp at hp; rw [hp]; exact hx
  · intro p hp
    show ∃ k, s.get p.1 = some k
    have hp : p ∈ Rg.signB s.bk x := hp
    unfold Rg.signB at hp
    split at hp
    · exact h.bg p hp
    · rcases List.mem_append.1 hp with hp | hp
      · exact h.bg p hp
      · simp at hp; rw [hp]; exact hg
theorem GoodG.got {s : Rg} (h : GoodG s) {id : ByteArray} {k : List Nat} (hg : s.get id = some k) : (id, k) ∈ s.ks ∧ k.length = 32 ∧ ∀ x ∈ k, x < 256 := by
  unfold Rg.get at hg
  obtain ⟨p, hp, rfl⟩ := Option.map_eq_some_iff.1 hg
  have h1 := List.mem_of_find?_eq_some hp
  have h2 : p.1 = id := by have := List.find?_some hp; simpa using this
  obtain ⟨_, h3, h4⟩ := h.kl p h1
  exact ⟨by rw [← h2]; exact h1, h3, h4⟩
def keyP (p : ByteArray × List Nat) : Value × Value := (.string p.1, .agg (bytesV p.2))
/-- What stands in the book: the key, the domain, the message. -/
def entV (k : List Nat) (b c : ByteArray) : Value := .agg (bytesV k ++ #[.string b, .string c])
def bookP (s : Rg) (p : ByteArray × ByteArray × ByteArray) : Value × Value := (entV ((s.get p.1).getD []) p.2.1 p.2.2, .bool true)
theorem bytesV_inj {k l : List Nat} (h : bytesV k = bytesV l) : k = l := by
  have h1 := congrArg Array.size h
  rw [bytesV_size, bytesV_size] at h1
  refine List.ext_getElem h1 (fun i hi hi2 => ?_)
  have h2 := bytesV_at k i hi
  have h3 := bytesV_at l i hi2
  rw [h, h3] at h2
  have h4 : l.getD i 0 = k.getD i 0 := by
    injection h2 with h5
    injection h5 with _ h6
    omega
  rw [List.getD_eq_getElem?_getD, List.getD_eq_getElem?_getD, List.getElem?_eq_getElem hi, List.getElem?_eq_getElem hi2] at h4
  exact h4.symm
theorem entV_inj {k l : List Nat} {b c d e : ByteArray} (hk : k.length = 32) (hl : l.length = 32) (h : entV k b c = entV l d e) : k = l ∧ b = d ∧ c = e := by
  unfold entV at h
  injection h with h
  have h0 : (bytesV k).toList ++ [Value.string b, .string c] = (bytesV l).toList ++ [Value.string d, .string e] := by
    have := congrArg Array.toList h
    simpa using this
  have h1 := List.append_inj h0 (by simp [bytesV_size, hk, hl])
  refine ⟨bytesV_inj (Array.toList_inj.1 h1.1), ?_⟩
  simpa using h1.2
theorem bookP_inj {s : Rg} (h : GoodG s) {p q : ByteArray × ByteArray × ByteArray} (hp : ∃ k, s.get p.1 = some k) (hq : ∃ k, s.get q.1 = some k) (he : (bookP s p).1 = (bookP s q).1) : p = q := by
  obtain ⟨k, hk⟩ := hp
  obtain ⟨l, hl⟩ := hq
  unfold bookP at he
  rw [hk, hl] at he
  obtain ⟨k1, k2, -⟩ := h.got hk
  obtain ⟨l1, l2, -⟩ := h.got hl
  obtain ⟨e1, e2, e3⟩ := entV_inj k2 l2 he
  have e4 : p.1 = q.1 := by
    have a := h.ki _ k1
    have b := h.ki _ l1
    simp only at a b
    have e1 : k = l := e1
    rw [a, b, e1]
  obtain ⟨p1, p2, p3⟩ := p
  obtain ⟨q1, q2, q3⟩ := q
  simp only at e2 e3 e4
  rw [e2, e3, e4]
theorem bookP_add {s : Rg} (h : GoodG s) (id : ByteArray) (k : List Nat) : s.bk.map (bookP (s.add id k)) = s.bk.map (bookP s) := by
  refine List.map_congr_left (fun p hp => ?_)
  obtain ⟨k0, h0⟩ := h.bg p hp
  unfold bookP
  rw [Rg.get_add_keep h0, h0]
/-- A map that may be nil. -/
def MapO (w : World) : Option Nat → List (Value × Value) → Prop
  | none, L => L = []
  | some b, L => MapL w b L
theorem MapO.of {w w' : World} {o : Option Nat} {L : List (Value × Value)} (h : MapO w o L) (hb : ∀ k, o = some k → w'.heap[k]? = w.heap[k]?) : MapO w' o L := by
  cases o with
  | none => exact h
  | some b => exact mapL_of h (hb b rfl)
theorem ks_keys {s : Rg} (h : GoodG s) : ∀ p ∈ s.ks.map keyP, ∃ l, keyOf Tryd.prog 9 p.1 = some l := fun p hp => by
  obtain ⟨q, hq, rfl⟩ := List.mem_map.1 hp
  exact keyS q.1 (by have := (h.kl q hq).1; omega)
theorem bk_keys {s : Rg} (h : GoodG s) : ∀ p ∈ s.bk.map (bookP s), ∃ l, keyOf Tryd.prog 86 p.1 = some l := fun p hp => by
  obtain ⟨q, hq, rfl⟩ := List.mem_map.1 hp
  obtain ⟨h1, h2, h3⟩ := h.bl q hq
  obtain ⟨k, hk⟩ := h.bg q hq
  obtain ⟨-, k2, k3⟩ := h.got hk
  unfold bookP
  rw [hk]
  exact keyE k q.2.1 q.2.2 k2 k3 (by omega) (by omega)
/-- A key is looked up. -/
theorem ks_look {s : Rg} (h : GoodG s) {w : World} {o : Option Nat} (hm : MapO w o (s.ks.map keyP)) (id : ByteArray) (hi : id.size ≤ 1000) :
    (Instr.lookup 80 (.map o) (.string id) true).run Tryd.prog w = .ok (match s.get id with | none => .tuple #[.agg zeros32, .bool false] | some k => .tuple #[.agg (bytesV k), .bool true]) w := by
  obtain ⟨kl, hkl⟩ := keyS id (by omega)
  cases hg : s.get id with
  | none =>
    have hno : ∀ p ∈ s.ks.map keyP, p.1 ≠ .string id := fun p hp e => by
      obtain ⟨q, hq, rfl⟩ := List.mem_map.1 hp
      have e : q.1 = id := by simpa [keyP] using e
      unfold Rg.get at hg
      rw [Option.map_eq_none_iff, List.find?_eq_none] at hg
      exact hg q hq (by simpa using e)
    cases o with
    | none => exact look_nil kS mapKT (zK w) hkl true
    | some b => exact look_miss kS mapKT (zK w) hm (ks_keys h) hkl hno true
  | some k =>
    obtain ⟨h1, _, _⟩ := h.got hg
    cases o with
    | none =>
      have hm : s.ks.map keyP = [] := hm
      rw [List.map_eq_nil_iff] at hm
      rw [hm] at h1; exact absurd h1 (by simp)
    | some b =>
      refine look_hit kS mapKT hm (ks_keys h) hkl (v := .agg (bytesV k)) (List.mem_map.2 ⟨_, h1, rfl⟩) (fun p hp e => ?_) true
      obtain ⟨q, hq, rfl⟩ := List.mem_map.1 hp
      have e : q.1 = id := by simpa [keyP] using e
      have : q = (id, k) := by
        have hpw := h.kd
        rw [List.Nodup, List.pairwise_map] at hpw
        rcases List.pairwise_iff_getElem.1 hpw with hpw
        obtain ⟨i, hi, rfl⟩ := List.getElem_of_mem hq
        obtain ⟨j, hj, hje⟩ := List.getElem_of_mem h1
        rcases Nat.lt_trichotomy i j with hlt | heq | hlt
        · exact absurd (by rw [e, hje]) (hpw i j hi hj hlt)
        · subst heq; exact hje
        · exact absurd (by rw [e, hje]) (hpw j i hj hi hlt)
      rw [this]; rfl
/-- What was signed is looked up. -/
theorem bk_look {s : Rg} (h : GoodG s) {w : World} {o : Option Nat} (hm : MapO w o (s.bk.map (bookP s))) (a b c : ByteArray) (k : List Nat) (hk : s.get a = some k) (hb : b.size ≤ 1000) (hc : c.size ≤ 100000) :
    (Instr.lookup 81 (.map o) (entV k b c) false).run Tryd.prog w = .ok (.bool (decide ((a, b, c) ∈ s.bk))) w := by
  obtain ⟨-, k2, k3⟩ := h.got hk
  obtain ⟨kl, hkl⟩ := keyE k b c k2 k3 (by omega) (by omega)
  have hkl : keyOf Tryd.prog 86 (entV k b c) = some kl := hkl
  have hx : (bookP s (a, b, c)).1 = entV k b c := by unfold bookP; rw [hk]; rfl
  have he : ∀ q ∈ s.bk, (bookP s q).1 = entV k b c → q = (a, b, c) := fun q hq e => bookP_inj h (h.bg q hq) ⟨k, hk⟩ (e.trans hx.symm)
  by_cases hin : (a, b, c) ∈ s.bk
  · rw [decide_eq_true hin]
    cases o with
    | none =>
      have hm : s.bk.map (bookP s) = [] := hm
      rw [List.map_eq_nil_iff] at hm
      rw [hm] at hin; exact absurd hin (by simp)
    | some g => exact look_hit kE mapET hm (bk_keys h) hkl (v := .bool true) (List.mem_map.2 ⟨_, hin, Prod.ext hx rfl⟩) (fun p hp e => by
        obtain ⟨q, hq, rfl⟩ := List.mem_map.1 hp; rfl) false
  · rw [decide_eq_false hin]
    cases o with
    | none => exact look_nil kE mapET (zB w) hkl false
    | some g => exact look_miss kE mapET (zB w) hm (bk_keys h) hkl (fun p hp e => by
        obtain ⟨q, hq, rfl⟩ := List.mem_map.1 hp
        rw [he q hq e] at hq; exact hin hq) false
/-- A key is put. -/
theorem ks_put {s : Rg} (h : GoodG s) {w : World} {g : Nat} (hm : MapL w g (s.ks.map keyP)) (id : ByteArray) (k : List Nat) (hi : id.size ≤ 1000) (hg : s.get id = none) :
    ∃ es' clock', (∀ W : World, W.heap[g]? = w.heap[g]? → (Instr.mapUpdate 80 (.map (some g)) (.string id) (.agg (bytesV k))).run Tryd.prog W = .ok () (setBlock W g (.map es' clock'))) ∧ es'.toList.map (fun x => (x.key, x.val)) = (s.add id k).ks.map keyP := by
  obtain ⟨kl, hkl⟩ := keyS id (by omega)
  have hno : ∀ p ∈ s.ks.map keyP, p.1 ≠ .string id := fun p hp e => by
    obtain ⟨q, hq, rfl⟩ := List.mem_map.1 hp
    exact Rg.get_miss hg q hq (by simpa [keyP] using e)
  obtain ⟨es', cl', h1, h2⟩ := put_miss kS mapKT hm (ks_keys h) (v := .agg (bytesV k)) hkl hno
  refine ⟨es', cl', h1, ?_⟩
  rw [h2, Rg.add_new hg]
  show _ = (s.ks ++ [(id, k)]).map keyP
  rw [List.map_append]
  rfl
/-- What is signed is put. -/
theorem bk_put {s : Rg} (h : GoodG s) {w : World} {g : Nat} (hm : MapL w g (s.bk.map (bookP s))) (a b c : ByteArray) (k : List Nat) (hk : s.get a = some k) (hb : b.size ≤ 1000) (hc : c.size ≤ 100000) :
    ∃ es' clock', (∀ W : World, W.heap[g]? = w.heap[g]? → (Instr.mapUpdate 81 (.map (some g)) (entV k b c) (.bool true)).run Tryd.prog W = .ok () (setBlock W g (.map es' clock'))) ∧ es'.toList.map (fun x => (x.key, x.val)) = (s.sign (a, b, c)).bk.map (bookP s) := by
  obtain ⟨-, k2, k3⟩ := h.got hk
  obtain ⟨kl, hkl⟩ := keyE k b c k2 k3 (by omega) (by omega)
  have hkl : keyOf Tryd.prog 86 (entV k b c) = some kl := hkl
  have hx : (bookP s (a, b, c)).1 = entV k b c := by unfold bookP; rw [hk]; rfl
  have he : ∀ q ∈ s.bk, (bookP s q).1 = entV k b c → q = (a, b, c) := fun q hq e => bookP_inj h (h.bg q hq) ⟨k, hk⟩ (e.trans hx.symm)
  show ∃ es' clock', _ ∧ _ = (Rg.signB s.bk (a, b, c)).map (bookP s)
  unfold Rg.signB
  by_cases hin : (a, b, c) ∈ s.bk
  · rw [if_pos hin]
    have hd : (s.bk.map (bookP s)).Pairwise (fun p q => p.1 ≠ q.1) := by
      rw [List.pairwise_map]
      refine List.Pairwise.imp_of_mem (fun {p q} hp hq hab e => hab (bookP_inj h (h.bg p hp) (h.bg q hq) e)) h.bd
    obtain ⟨es', cl', L1, L2, v0, h1, h2, h3⟩ := put_hit kE mapET hm (bk_keys h) (v := .bool true) hkl ⟨_, List.mem_map.2 ⟨_, hin, rfl⟩, hx⟩ hd
    refine ⟨es', cl', h1, ?_⟩
    have hv : v0 = .bool true := by
      have : (entV k b c, v0) ∈ s.bk.map (bookP s) := by rw [h2]; simp
      obtain ⟨q, hq, hqe⟩ := List.mem_map.1 this
      exact (congrArg Prod.snd hqe).symm
    rw [h3, h2, hv]
  · rw [if_neg hin]
    obtain ⟨es', cl', h1, h2⟩ := put_miss kE mapET hm (bk_keys h) (v := .bool true) hkl (fun p hp e => by
      obtain ⟨q, hq, rfl⟩ := List.mem_map.1 hp
      rw [he q hq e] at hq; exact hin hq)
    refine ⟨es', cl', h1, ?_⟩
    rw [h2, List.map_append, List.map_singleton]
    have : bookP s (a, b, c) = (entV k b c, .bool true) := Prod.ext hx rfl
    rw [this]
end Go.Proofs.YtgdnndapmcjoeaaDoor
