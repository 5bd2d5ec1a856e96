import Derived.Test.YtgdnndapmcjoeaaDoorKa43
namespace Go.Proofs.YtgdnndapmcjoeaaDoor
open Go.RowKit Go.Maps
open Go.ChangeMaps (setBlock)
set_option linter.unusedVariables false
/-- The program's ring, in block b. -/
structure PrG (W0 : World) (F : Nat → Prop) (b : Nat) (s : Rg) (w : World) : Prop where
  base : W0.grownBy w none
  own : ∀ k, F k → W0.heap.size ≤ k ∧ k < w.heap.size
  mem : F b
  good : GoodG s
  body : ∃ mk mb, w.heap[b]? = some (.cells #[.map mk, .map mb] 83 (0, 0)) ∧ MapO w mk (s.ks.map keyP) ∧ MapO w mb (s.bk.map (bookP s)) ∧ (∀ k, mk = some k → F k ∧ k ≠ b) ∧ (∀ k, mb = some k → F k ∧ k ≠ b) ∧ ∀ k, mk = some k → mb ≠ some k
section
variable {W0 w w' : World} {F : Nat → Prop} {b : Nat} {s : Rg}
theorem PrG.new (hb : W0.grownBy w none) : PrG W0 (fun k => k = w.heap.size) w.heap.size Rg.none (w.alloc (.cells #[.map none, .map none] 83)) :=
  ⟨grown_alloc hb _, fun k hk => by rw [hk, alloc_size]; have := hb.size; omega, rfl, good_none, none, none, alloc_at _ _, rfl, rfl, fun k hk => (by cases hk), fun k hk => (by cases hk), fun k hk => (by cases hk)⟩
theorem PrG.other {G G' : Nat → Prop} (h : PrG W0 F b s w) (hG : ∀ k, G k → W0.heap.size ≤ k) (ht : Turn G G' w w') (ha : Apart G F) : PrG W0 F b s w' := by
  obtain ⟨mk, mb, h1, h2, h3, h4, h5, h6⟩ := h.body
  have hk : ∀ k, F k → w'.heap[k]? = w.heap[k]? := fun k hk => ht.upto.block k (h.own k hk).2 (fun hg => ha k hg hk)
  exact ⟨ht.upto.base h.base hG, fun k hk => ⟨(h.own k hk).1, Nat.lt_of_lt_of_le (h.own k hk).2 ht.upto.size⟩, h.mem, h.good, mk, mb, (hk b h.mem).trans h1, h2.of (fun k e => hk k (h4 k e).1), h3.of (fun k e => hk k (h5 k e).1), h4, h5, h6⟩
theorem PrG.still (h : PrG W0 F b s w) (hg : w.grownBy w' none) : PrG W0 F b s w' :=
  h.other (G := fun _ => False) (G' := fun _ => False) (fun _ h => h.elim) (Turn.of_grown hg) (fun _ h => h.elim)
end
/-- What a call of reckon comes to. -/
def recE (s : Rg) (id dom : ByteArray) (m : List Nat) : Nat := if s.get id = none then 10 else fErr (strL dom) [m]
def recS (s : Rg) (id dom : ByteArray) (m : List Nat) : List Nat := Hm.hmac ((s.get id).getD []) (frameOf (strL dom) [m])
theorem recS_len (s : Rg) (id dom : ByteArray) (m : List Nat) : (recS s id dom m).length = 32 := hmac_len _ _
theorem recS_lt (s : Rg) (id dom : ByteArray) (m : List Nat) : ∀ x ∈ recS s id dom m, x < 256 := hmac_lt _ _
section
variable {A : Nat → Addr} {W0 w w' : World} {F : Nat → Prop} {b : Nat} {s : Rg}
theorem PrG.lookK (h : PrG W0 F b s w) {mk : Option Nat} (h2 : MapO w mk (s.ks.map keyP)) (id : ByteArray) (hi : id.size ≤ 1000) : ∀ W, w.grownBy W none → (Instr.lookup 80 (.map mk) (.string id) true).run Tryd.prog W = .ok (match s.get id with | none => .tuple #[.agg zeros32, .bool false] | some k => .tuple #[.agg (bytesV k), .bool true]) W := fun W hW =>
  ks_look h.good (h2.of (fun q hq => hW.block q (by subst hq; exact MapL.lt h2) (by simp))) id hi
theorem pgReckon_err (h : PrG W0 F b s w) (hE : AllErrs W0 A) (hL : Laid W0) (id dom : ByteArray) (hi : id.size ≤ 1000) (hd : dom.size ≤ 1000) (va : Option Addr) (vc : Nat) (m : List Nat) (hm : Bytes w (.slice va m.length vc) m) (hm0 : Whole0 (.slice va m.length vc)) (he : recE s id dom m ≠ 0) :
    Calls Tryd.prog 33 #[.pointer (some ⟨b, 0, none⟩), .string id, .string dom, .slice va m.length vc] w fun e w' => e = .returned (.tuple #[.agg zEnt, .slice none 0 0, errV A (recE s id dom m)]) ∧ w.grownBy w' none := by
  obtain ⟨mk, mb, h1, h2, h3, h4, h5, h6⟩ := h.body
  have hl := h.lookK h2 id hi
  unfold recE at he ⊢
  cases hg : s.get id with
  | none =>
    rw [hg] at hl
    rw [if_pos rfl]
    exact reckon_none A w b mk _ id dom _ h1 hl (hE.grown h.base)
  | some k =>
    rw [hg] at hl he
    rw [if_neg (by simp)] at he
    rw [if_neg (by simp)]
    obtain ⟨_, hk, hk8⟩ := h.good.got hg
    exact reckon_err A w b mk _ id dom va vc m k h1 hl (hE.grown h.base) (hL.grown h.base (by simp) (by simp)) hk hk8 hm hm0 (by omega) he
theorem pgReckon_ok (h : PrG W0 F b s w) (hE : AllErrs W0 A) (hL : Laid W0) (id dom : ByteArray) (hi : id.size ≤ 1000) (hd : dom.size ≤ 1000) (va : Option Addr) (vc : Nat) (m : List Nat) (hm : Bytes w (.slice va m.length vc) m) (hm0 : Whole0 (.slice va m.length vc)) (he : recE s id dom m = 0) :
    ∃ k, s.get id = some k ∧ Calls Tryd.prog 33 #[.pointer (some ⟨b, 0, none⟩), .string id, .string dom, .slice va m.length vc] w fun e w' => w.grownBy w' none ∧ ∃ g, e = .returned (.tuple #[.agg (entA k dom (strOf m)), .slice (some ⟨g, 0, none⟩) 32 32, .nilIface]) ∧ w.heap.size ≤ g ∧ w'.heap[g]? = some (.cells (bytesV (recS s id dom m)) 64 (0, 0)) := by
  obtain ⟨mk, mb, h1, h2, h3, h4, h5, h6⟩ := h.body
  have hl := h.lookK h2 id hi
  unfold recE at he
  unfold recS
  cases hg : s.get id with
  | none => rw [hg, if_pos rfl] at he; exact absurd he (by decide)
  | some k =>
    rw [hg] at hl he
    rw [if_neg (by simp)] at he
    obtain ⟨_, hk, hk8⟩ := h.good.got hg
    exact ⟨k, rfl, reckon_ok A w b mk _ id dom va vc m k h1 hl (hE.grown h.base) (hL.grown h.base (by simp) (by simp)) hk hk8 hm hm0 (by omega) he⟩
theorem PrG.turnK (h : PrG W0 F b s w) {mk mb : Option Nat} {g : Nat} {s' : Rg} (hs : GoodG s') (hbk : s'.bk.map (bookP s') = s.bk.map (bookP s)) (h1 : w.heap[b]? = some (.cells #[.map mk, .map mb] 83 (0, 0))) (h3 : MapO w mb (s.bk.map (bookP s))) (h4 : ∀ k, mk = some k → F k ∧ k ≠ b) (h5 : ∀ k, mb = some k → F k ∧ k ≠ b) (h6 : ∀ k, mk = some k → mb ≠ some k)
    (ht : TurnG w w' b mk g (s'.ks.map keyP)) (hb : w'.heap[b]? = some (.cells #[.map (some g), .map mb] 83 (0, 0))) : Turn F (fun k => F k ∨ k = g) w w' ∧ PrG W0 (fun k => F k ∨ k = g) b s' w' := by
  have hu : Upto F w w' := ht.upto.mono (fun k _ hk => hk.elim (fun e => by rw [e]; exact h.mem) (fun e => (h4 k e).1))
  have hbl := (h.own b h.mem).2
  have hg0 := h.base.size
  have hnew : mk ≠ some g → w.heap.size ≤ g := fun hne => ht.from_.elim (fun e => absurd e hne) (fun e => e.2)
  refine ⟨⟨hu, fun k hk hf => hf.elim id (fun e => ?_)⟩, hu.base h.base (fun k hk => (h.own k hk).1), fun k hk => ?_, .inl h.mem, hs, some g, mb, hb, ht.map, ?_, fun k hk => ?_, fun k hk => ⟨.inl (h5 k hk).1, (h5 k hk).2⟩, fun k hk e => ?_⟩
  · rcases ht.from_ with e2 | ⟨_, e2⟩
    · exact (h4 k (by rw [e2, e])).1
    · omega
  · rcases hk with hk | rfl
    · exact ⟨(h.own k hk).1, Nat.lt_of_lt_of_le (h.own k hk).2 hu.size⟩
    · refine ⟨?_, ht.map.lt⟩
      rcases ht.from_ with e2 | ⟨_, e2⟩
      · exact (h.own _ (h4 _ e2).1).1
      · omega
  · rw [hbk]
    refine h3.of (fun k hk => ht.upto.block k (h.own k (h5 k hk).1).2 (fun hn => hn.elim (fun e => (h5 k hk).2 e) (fun e => h6 k e hk)))
  · have e := Option.some.inj hk
    subst e
    refine ⟨.inr rfl, ?_⟩
    rcases ht.from_ with e2 | ⟨_, e2⟩
    · exact (h4 _ e2).2
    · omega
  · have e2 := Option.some.inj hk
    subst e2
    rcases ht.from_ with e3 | ⟨_, e3⟩
    · exact h6 _ e3 e
    · have := (h.own _ (h5 _ e).1).2; omega
theorem PrG.turnB (h : PrG W0 F b s w) {mk mb : Option Nat} {g : Nat} {s' : Rg} (hs : GoodG s') (hks : s'.ks = s.ks) (h1 : w.heap[b]? = some (.cells #[.map mk, .map mb] 83 (0, 0))) (h2 : MapO w mk (s.ks.map keyP)) (h4 : ∀ k, mk = some k → F k ∧ k ≠ b) (h5 : ∀ k, mb = some k → F k ∧ k ≠ b) (h6 : ∀ k, mk = some k → mb ≠ some k)
    (ht : TurnG w w' b mb g (s'.bk.map (bookP s'))) (hb : w'.heap[b]? = some (.cells #[.map mk, .map (some g)] 83 (0, 0))) : Turn F (fun k => F k ∨ k = g) w w' ∧ PrG W0 (fun k => F k ∨ k = g) b s' w' := by
  have hu : Upto F w w' := ht.upto.mono (fun k _ hk => hk.elim (fun e => by rw [e]; exact h.mem) (fun e => (h5 k e).1))
  have hbl := (h.own b h.mem).2
  have hg0 := h.base.size
  refine ⟨⟨hu, fun k hk hf => hf.elim id (fun e => ?_)⟩, hu.base h.base (fun k hk => (h.own k hk).1), fun k hk => ?_, .inl h.mem, hs, mk, some g, hb, ?_, ht.map, fun k hk => ⟨.inl (h4 k hk).1, (h4 k hk).2⟩, fun k hk => ?_, fun k hk e => ?_⟩
  · rcases ht.from_ with e2 | ⟨_, e2⟩
    · exact (h5 k (by rw [e2, e])).1
    · omega
  · rcases hk with hk | rfl
    · exact ⟨(h.own k hk).1, Nat.lt_of_lt_of_le (h.own k hk).2 hu.size⟩
    · refine ⟨?_, ht.map.lt⟩
      rcases ht.from_ with e2 | ⟨_, e2⟩
      · exact (h.own _ (h5 _ e2).1).1
      · omega
  · rw [hks]
    refine h2.of (fun k hk => ht.upto.block k (h.own k (h4 k hk).1).2 (fun hn => hn.elim (fun e => (h4 k hk).2 e) (fun e => h6 k hk e)))
  · have e := Option.some.inj hk
    subst e
    refine ⟨.inr rfl, ?_⟩
    rcases ht.from_ with e2 | ⟨_, e2⟩
    · exact (h5 _ e2).2
    · omega
  · have e2 := Option.some.inj e
    subst e2
    rcases ht.from_ with e3 | ⟨_, e3⟩
    · exact h6 _ hk e3
    · have := (h.own _ (h4 _ hk).1).2; omega
theorem id_size (k : List Nat) : (idText k).size = 32 := by
  rw [idText, strOf_size, hexL_len, List.length_take, hmac_len]; rfl
theorem pgAdd (h : PrG W0 F b s w) (hE : AllErrs W0 A) (hL : Laid W0) (va : Option Addr) (vc : Nat) (k : List Nat) (hk : k.length = 32) (hB : ∀ W, Upto F w W → Bytes W (.slice va 32 vc) k) :
    Calls Tryd.prog 18 #[.pointer (some ⟨b, 0, none⟩), .slice va 32 vc] w fun e w' => e = .returned (.tuple #[.string (idText k), .nilIface]) ∧ ∃ F', Turn F F' w w' ∧ PrG W0 F' b (s.add (idText k) k) w' := by
  obtain ⟨mk, mb, h1, h2, h3, h4, h5, h6⟩ := h.body
  have hB0 := hB w (Upto.refl F w)
  have hg : GoodG (s.add (idText k) k) := h.good.add (by rw [id_size]; decide) hk hB0.lt rfl
  have hbk : (s.add (idText k) k).bk.map (bookP (s.add (idText k) k)) = s.bk.map (bookP s) := by rw [Rg.add_bk]; exact bookP_add h.good _ _
  cases hgt : s.get (idText k) with
  | some k0 =>
    refine (gadd_has A w b mk _ s va vc k k0 h.good h2 h1 (hE.grown h.base) (hL.grown h.base (by simp) (by simp)) hk hB0 hgt).mono ?_
    rintro e w' ⟨he, hgr⟩
    refine ⟨he, F, ⟨Upto.of_grown F hgr, fun _ _ hf => hf⟩, ?_⟩
    rw [Rg.add_has hgt]
    exact h.still hgr
  | none =>
  cases mk with
  | some g =>
    refine (gadd_some A w b g _ s va vc k h.good h2 h1 (hE.grown h.base) (hL.grown h.base (by simp) (by simp)) hk hB0 hgt).mono ?_
    rintro e w' ⟨he, ht, hb⟩
    exact ⟨he, _, h.turnK hg hbk h1 h3 h4 h5 h6 ht ((hb (fun e => (h4 g rfl).2 e.symm)).trans h1)⟩
  | none =>
    have he : s.ks = [] := List.map_eq_nil_iff.1 h2
    refine (gadd_none A W0 w b _ s va vc k h.good he h1 hE hL h.base (h.own b h.mem).1 hk (fun W hW => hB W (hW.mono (fun k _ hk => by rw [hk]; exact h.mem)))).mono ?_
    rintro e w' ⟨g, he, ht, hb⟩
    exact ⟨he, _, h.turnK hg hbk h1 h3 h4 h5 h6 ht hb⟩
/-- What signing leaves. -/
def SignOut (A : Nat → Addr) (W0 : World) (F : Nat → Prop) (b : Nat) (s : Rg) (id dom : ByteArray) (m : List Nat) (w w' : World) (e : Ending) : Prop :=
  (recE s id dom m ≠ 0 ∧ e = .returned (.tuple #[.slice none 0 0, errV A (recE s id dom m)]) ∧ w.grownBy w' none) ∨
  (recE s id dom m = 0 ∧ ∃ g F', e = .returned (.tuple #[.slice (some ⟨g, 0, none⟩) 32 32, .nilIface]) ∧ w.heap.size ≤ g ∧ w'.heap[g]? = some (.cells (bytesV (recS s id dom m)) 64 (0, 0)) ∧ ¬ F' g ∧ Turn F F' w w' ∧ PrG W0 F' b (s.sign (id, dom, strOf m)) w')
theorem pgSign (h : PrG W0 F b s w) (hE : AllErrs W0 A) (hL : Laid W0) (id dom : ByteArray) (hi : id.size ≤ 1000) (hd : dom.size ≤ 1000) (va : Option Addr) (vc : Nat) (m : List Nat) (hml : m.length ≤ 100000) (hB : ∀ W, Upto F w W → Bytes W (.slice va m.length vc) m) (hm0 : Whole0 (.slice va m.length vc)) :
    Calls Tryd.prog 19 #[.pointer (some ⟨b, 0, none⟩), .string id, .string dom, .slice va m.length vc] w fun e w' => SignOut A W0 F b s id dom m w w' e := by
  have hB0 := hB w (Upto.refl F w)
  by_cases he : recE s id dom m = 0
  · obtain ⟨mk, mb, h1, h2, h3, h4, h5, h6⟩ := h.body
    obtain ⟨k, hgt, HR⟩ := pgReckon_ok h hE hL id dom hi hd va vc m hB0 hm0 he
    have hg : GoodG (s.sign (id, dom, strOf m)) := h.good.sign ⟨hi, hd, by rw [strOf_size]; exact hml⟩ ⟨k, hgt⟩
    have hnot : ∀ {g gm : Nat} {w' : World}, w.heap.size ≤ g → w'.heap[g]? = some (.cells (bytesV (recS s id dom m)) 64 (0, 0)) → TurnG w w' b mb gm ((s.sign (id, dom, strOf m)).bk.map (bookP s)) → ¬ (F g ∨ g = gm) := fun {g gm w'} hg1 hg2 ht hn => by
      rcases hn with hn | rfl
      · have := (h.own _ hn).2; omega
      · obtain ⟨es, cl, h7, _⟩ := ht.map
        rw [hg2] at h7; cases h7
    cases mb with
    | some gm =>
      refine (gsign_some w b gm _ s _ k id dom va vc m h.good h3 h1 hgt hd hml HR).mono ?_
      rintro e w' ⟨g, rfl, hg1, hg2, ht, hb⟩
      have := h.turnB hg rfl h1 h2 h4 h5 h6 ht ((hb (fun e => (h5 gm rfl).2 e.symm)).trans h1)
      exact .inr ⟨he, g, _, rfl, hg1, hg2, hnot hg1 hg2 ht, this.1, this.2⟩
    | none =>
      have hbk : s.bk = [] := List.map_eq_nil_iff.1 h3
      refine (gsign_none w b _ s _ k id dom va vc m h.good hbk h1 hgt hd hml HR).mono ?_
      rintro e w' ⟨g, gm, rfl, hg1, hg2, ht, hb⟩
      have := h.turnB hg rfl h1 h2 h4 h5 h6 ht hb
      exact .inr ⟨he, g, _, rfl, hg1, hg2, hnot hg1 hg2 ht, this.1, this.2⟩
  · exact (gsign_err A w b _ id dom _ (pgReckon_err h hE hL id dom hi hd va vc m hB0 hm0 he)).mono (fun e w' hp => .inl ⟨he, hp⟩)
/-- What verifying comes to. -/
def verE (s : Rg) (id dom : ByteArray) (m sg : List Nat) : Nat := if recE s id dom m ≠ 0 then recE s id dom m else if recS s id dom m = sg ∧ (id, dom, strOf m) ∈ s.bk then 0 else 12
theorem pgVerify (h : PrG W0 F b s w) (hE : AllErrs W0 A) (hL : Laid W0) (id dom : ByteArray) (hi : id.size ≤ 1000) (hd : dom.size ≤ 1000) (va : Option Addr) (vc : Nat) (m : List Nat) (hml : m.length ≤ 100000) (hB : Bytes w (.slice va m.length vc) m) (hm0 : Whole0 (.slice va m.length vc)) (sa : Option Addr) (sc : Nat) (sg : List Nat) (hsl : sg.length ≤ 1152921504606846976) (hS : Bytes w (.slice sa sg.length sc) sg) :
    Calls Tryd.prog 21 #[.pointer (some ⟨b, 0, none⟩), .string id, .string dom, .slice va m.length vc, .slice sa sg.length sc] w fun e w' => e = .returned (errOf A (verE s id dom m sg)) ∧ w.grownBy w' none := by
  by_cases he : recE s id dom m = 0
  · obtain ⟨mk, mb, h1, h2, h3, h4, h5, h6⟩ := h.body
    obtain ⟨k, hgt, HR⟩ := pgReckon_ok h hE hL id dom hi hd va vc m hB hm0 he
    refine (gver_ok A w b mb _ s _ sg k id dom va sa vc sc m h.good h3 h1 hgt hS hd hml hsl (recS_len _ _ _ _) (recS_lt _ _ _ _) (hE.grown h.base) HR).mono ?_
    rintro e w' ⟨rfl, hg⟩
    refine ⟨?_, hg⟩
    have hv : verE s id dom m sg = if recS s id dom m = sg ∧ (id, dom, strOf m) ∈ s.bk then 0 else 12 := by unfold verE; exact if_neg (fun h => h he)
    rw [hv]
    by_cases hc : recS s id dom m = sg ∧ (id, dom, strOf m) ∈ s.bk
    · rw [if_pos hc, if_pos hc, errOf, if_pos rfl]
    · rw [if_neg hc, if_neg hc, errOf, if_neg (by decide)]
  · refine (gver_err A w b _ id dom _ _ (pgReckon_err h hE hL id dom hi hd va vc m hB hm0 he)).mono ?_
    rintro e w' ⟨rfl, hg⟩
    refine ⟨?_, hg⟩
    unfold verE
    rw [if_pos he, errOf, if_neg he]
end
end Go.Proofs.YtgdnndapmcjoeaaDoor
