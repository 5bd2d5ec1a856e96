import Derived.Test.YtgdnndapmcjoeaaDoorKe18
namespace Go.Proofs.YtgdnndapmcjoeaaDoor
open Go.RowKit
set_option linter.unusedVariables false
theorem ks_lt : ∀ x ∈ Sha.ks, x < 4294967296 := by decide +kernel
theorem turnC (x k : Nat) (K : Int) (hK : K = (k : Int)) (hx : x < 4294967296) (hk : 1 < k) (hk2 : k < 32) (W : World) (w : World) (hw : ∃ n, w = W.drewN n) :
    Calls Tryd.prog 64 #[.int .i64 x, .int .i64 K] w fun e w' => e = .returned (.int .i64 (Sha.rotr x k : Nat)) ∧ ∃ n, w' = W.drewN n := by
  subst hK
  obtain ⟨n, rfl⟩ := hw
  exact (turn_any x k hx hk hk2 _).mono fun _ _ ⟨h1, h2⟩ => ⟨h1, n, h2.symm⟩
theorem drewAny (w : World) (n : Nat) : ∃ m, ({ w.drewN n with drawn := (w.drewN n).drawn + 1 } : World) = w.drewN m := ⟨n + 1, rfl⟩
/-- Eight ints in block g. -/
def Eight (w : World) (g : Nat) (s : Sha.St) : Prop := ∀ j, j < 8 → w.cell? ⟨g, j, none⟩ = some (.int .i64 (s.list.getD j 0 : Nat))
set_option maxRecDepth 1000000 in
set_option maxHeartbeats 4000000 in
theorem ref_loop6 {c0 c1 c2 c3 c4 c5 c7 c8 c10 c11 c12 c13 c14 c15 c16 c19 c20 c21 c22 c23 c24 c25 c26 c27 c28 c29 c30 c31 c32 c33 c34 c35 c36 c37 c38 c39 c40 c41 c42 c43 c44 c45 c46 c47 c48 c49 c50 c51 c52 c53 c54 c55 c56 c57 c58 c59 c60 c61 c62 c63 c64 c65 c66 c67 c68 c69 c70 c71 c72 c73 c74 c75 c76 c77 c78 c79 c80 c81 c82 c83 c84 c85 c86 c87 c88 c89 c90 c91 c92 c93 c94 c95 c96 c97 c98 c99 c100 c101 c102 c103 c104 c105 c106 c107 c108 c109 c110 c111 c112 c113 c114 c115 c116 c117 c118 c119 c120 c121 c122 c123 c124 c125 c126 c127 c128 c129 c130 c131 c132 c133 c134 c135 c136 c137 c138 c139 c140 c141 c142 c143 c144 c145 c146 c147 c148 c149 c150 c151 c152 c153 c154 c155 c156 c157 c158 c159 c160 c161 c162 c163 c164 c165 c166 c167 c168 c169 c170 c171 c172 c173 c174 c175 c176 c177 c178 c179 c180 c181 c182 c183 c184 c185 c186 c187 c188 c189 c190 c191 c192 c193 c194 c195 c196 c197 c198 c199 c200 c201 c202 c203 c204 c205 c206 c207 c208 c209 c210 c211 c212 c213 c214 c215 c216 c217 c218 c219 c220 c221 c222 c223 c224 c225 c226 c227 c228 c229 c230 c231 c232 c233 c234 c235 c236 c237 c238 c239 c240 c241 c242 c243 c244 c245 c246 c247 c248 c249 c250 c251 c252 c253 c254 c255 c256 c257 c258 c259 c260 c261 c262 c263 c264 c265 c266 c267 c268 c269 c270 c271 c272 c273 c274 c275 c276 c277 c278 c279 c280 c281 c282 c283 c284 c285 c286 c287 c288 c289 c290 c291 c292 c293 c294 c295 c296 c297 c298 c299 c300 c301 c302 c303 c304 c305 c306 c307 c308 c309 c310 c311 c312 c313 c314 c315 c316 c317 c318 c319 c320 : Value} {kg kc wg wc vg vc : Nat} (W : List Nat) (s : Sha.St) (Q : Exit → Act → World → Prop) (w : World) (hs : s.ok) (hWl : ∀ x ∈ W, x < 4294967296) (hkc : 64 ≤ kc) (hwc : 64 ≤ wc) (hvc : 8 ≤ vc)
    (hk : ∀ j, j < 64 → w.cell? ⟨kg, j, none⟩ = some (.int .i64 (Sha.ks.getD j 0 : Nat))) (hw : ∀ j, j < 64 → w.cell? ⟨wg, j, none⟩ = some (.int .i64 (W.getD j 0 : Nat))) (hv : Eight w vg s)
    (hkl : kg < w.heap.size) (hwl : wg < w.heap.size) (hvl : vg < w.heap.size)
    (hQ : Hid (∀ (u18 u19 u20 u21 u22 u158 u159 u160 u161 u162 u163 u164 u165 u166 u167 u168 u169 u170 u171 u172 u173 u174 u175 u176 u177 u178 u179 u180 u181 u182 u183 u184 u185 u186 u187 u188 u189 u190 u191 u192 u193 u194 u195 u196 u197 u198 u199 u200 u201 u202 u203 u204 u205 u206 u207 u208 u209 u210 u211 u212 u213 u214 u215 u216 u217 u218 u219 u220 u221 u222 u223 u224 u225 u226 u227 u228 u229 u230 u231 u232 u233 u234 u235 u236 u237 u238 u239 u240 u241 u242 u243 u244 u245 u246 u247 u248 u249 u250 u251 u252 u253 u254 u255 u256 u257 u258 u259 u260 u261 u262 u263 u264 u265 u266 u267 u268 u269 u270 u271 u272 u273 u274 u275 : Value) (vg2 vc2 : Nat) (w' : World), w.grownBy w' none → 8 ≤ vc2 → vg2 < w'.heap.size → (vg2 = vg ∨ w.heap.size ≤ vg2) → Eight w' vg2 (s.run Sha.ks W 64) → Q (.exit 10) ⟨(c0 :: c1 :: c2 :: c3 :: c4 :: c5 :: (.slice (some ⟨kg, 0, none⟩) 64 kc) :: c7 :: c8 :: (.slice (some ⟨wg, 0, none⟩) 64 wc) :: c10 :: c11 :: c12 :: c13 :: c14 :: c15 :: c16 :: (.slice (some ⟨vg2, 0, none⟩) 8 vc2) :: u18 :: u19 :: u20 :: u21 :: u22 :: c23 :: c24 :: c25 :: c26 :: c27 :: c28 :: c29 :: c30 :: c31 :: c32 :: c33 :: c34 :: c35 :: c36 :: c37 :: c38 :: c39 :: c40 :: c41 :: c42 :: c43 :: c44 :: c45 :: c46 :: c47 :: c48 :: c49 :: c50 :: c51 :: c52 :: c53 :: c54 :: c55 :: c56 :: c57 :: c58 :: c59 :: c60 :: c61 :: c62 :: c63 :: c64 :: c65 :: c66 :: c67 :: c68 :: c69 :: c70 :: c71 :: c72 :: c73 :: c74 :: c75 :: c76 :: c77 :: c78 :: c79 :: c80 :: c81 :: c82 :: c83 :: c84 :: c85 :: c86 :: c87 :: c88 :: c89 :: c90 :: c91 :: c92 :: c93 :: c94 :: c95 :: c96 :: c97 :: c98 :: c99 :: c100 :: c101 :: c102 :: c103 :: c104 :: c105 :: c106 :: c107 :: c108 :: c109 :: c110 :: c111 :: c112 :: c113 :: c114 :: c115 :: c116 :: c117 :: c118 :: c119 :: c120 :: c121 :: c122 :: c123 :: c124 :: c125 :: c126 :: c127 :: c128 :: c129 :: c130 :: c131 :: c132 :: c133 :: c134 :: c135 :: c136 :: c137 :: c138 :: c139 :: c140 :: c141 :: c142 :: c143 :: c144 :: c145 :: c146 :: c147 :: c148 :: c149 :: c150 :: c151 :: c152 :: c153 :: c154 :: c155 :: c156 :: c157 :: u158 :: u159 :: u160 :: u161 :: u162 :: u163 :: u164 :: u165 :: u166 :: u167 :: u168 :: u169 :: u170 :: u171 :: u172 :: u173 :: u174 :: u175 :: u176 :: u177 :: u178 :: u179 :: u180 :: u181 :: u182 :: u183 :: u184 :: u185 :: u186 :: u187 :: u188 :: u189 :: u190 :: u191 :: u192 :: u193 :: u194 :: u195 :: u196 :: u197 :: u198 :: u199 :: u200 :: u201 :: u202 :: u203 :: u204 :: u205 :: u206 :: u207 :: u208 :: u209 :: u210 :: u211 :: u212 :: u213 :: u214 :: u215 :: u216 :: u217 :: u218 :: u219 :: u220 :: u221 :: u222 :: u223 :: u224 :: u225 :: u226 :: u227 :: u228 :: u229 :: u230 :: u231 :: u232 :: u233 :: u234 :: u235 :: u236 :: u237 :: u238 :: u239 :: u240 :: u241 :: u242 :: u243 :: u244 :: u245 :: u246 :: u247 :: u248 :: u249 :: u250 :: u251 :: u252 :: u253 :: u254 :: u255 :: u256 :: u257 :: u258 :: u259 :: u260 :: u261 :: u262 :: u263 :: u264 :: u265 :: u266 :: u267 :: u268 :: u269 :: u270 :: u271 :: u272 :: u273 :: u274 :: u275 :: c276 :: c277 :: c278 :: c279 :: c280 :: c281 :: c282 :: c283 :: c284 :: c285 :: c286 :: c287 :: c288 :: c289 :: c290 :: c291 :: c292 :: c293 :: c294 :: c295 :: c296 :: c297 :: c298 :: c299 :: c300 :: c301 :: c302 :: c303 :: c304 :: c305 :: c306 :: c307 :: c308 :: c309 :: c310 :: c311 :: c312 :: c313 :: c314 :: c315 :: c316 :: c317 :: c318 :: c319 :: c320 :: []).toArray, []⟩ w')) :
    Code.wp Tryd.prog (Code.loop (refLoop 5)) Q ⟨(c0 :: c1 :: c2 :: c3 :: c4 :: c5 :: (.slice (some ⟨kg, 0, none⟩) 64 kc) :: c7 :: c8 :: (.slice (some ⟨wg, 0, none⟩) 64 wc) :: c10 :: c11 :: c12 :: c13 :: c14 :: c15 :: c16 :: (.slice (some ⟨vg, 0, none⟩) 8 vc) :: (.int .i64 0) :: c19 :: c20 :: c21 :: c22 :: c23 :: c24 :: c25 :: c26 :: c27 :: c28 :: c29 :: c30 :: c31 :: c32 :: c33 :: c34 :: c35 :: c36 :: c37 :: c38 :: c39 :: c40 :: c41 :: c42 :: c43 :: c44 :: c45 :: c46 :: c47 :: c48 :: c49 :: c50 :: c51 :: c52 :: c53 :: c54 :: c55 :: c56 :: c57 :: c58 :: c59 :: c60 :: c61 :: c62 :: c63 :: c64 :: c65 :: c66 :: c67 :: c68 :: c69 :: c70 :: c71 :: c72 :: c73 :: c74 :: c75 :: c76 :: c77 :: c78 :: c79 :: c80 :: c81 :: c82 :: c83 :: c84 :: c85 :: c86 :: c87 :: c88 :: c89 :: c90 :: c91 :: c92 :: c93 :: c94 :: c95 :: c96 :: c97 :: c98 :: c99 :: c100 :: c101 :: c102 :: c103 :: c104 :: c105 :: c106 :: c107 :: c108 :: c109 :: c110 :: c111 :: c112 :: c113 :: c114 :: c115 :: c116 :: c117 :: c118 :: c119 :: c120 :: c121 :: c122 :: c123 :: c124 :: c125 :: c126 :: c127 :: c128 :: c129 :: c130 :: c131 :: c132 :: c133 :: c134 :: c135 :: c136 :: c137 :: c138 :: c139 :: c140 :: c141 :: c142 :: c143 :: c144 :: c145 :: c146 :: c147 :: c148 :: c149 :: c150 :: c151 :: c152 :: c153 :: c154 :: c155 :: c156 :: c157 :: c158 :: c159 :: c160 :: c161 :: c162 :: c163 :: c164 :: c165 :: c166 :: c167 :: c168 :: c169 :: c170 :: c171 :: c172 :: c173 :: c174 :: c175 :: c176 :: c177 :: c178 :: c179 :: c180 :: c181 :: c182 :: c183 :: c184 :: c185 :: c186 :: c187 :: c188 :: c189 :: c190 :: c191 :: c192 :: c193 :: c194 :: c195 :: c196 :: c197 :: c198 :: c199 :: c200 :: c201 :: c202 :: c203 :: c204 :: c205 :: c206 :: c207 :: c208 :: c209 :: c210 :: c211 :: c212 :: c213 :: c214 :: c215 :: c216 :: c217 :: c218 :: c219 :: c220 :: c221 :: c222 :: c223 :: c224 :: c225 :: c226 :: c227 :: c228 :: c229 :: c230 :: c231 :: c232 :: c233 :: c234 :: c235 :: c236 :: c237 :: c238 :: c239 :: c240 :: c241 :: c242 :: c243 :: c244 :: c245 :: c246 :: c247 :: c248 :: c249 :: c250 :: c251 :: c252 :: c253 :: c254 :: c255 :: c256 :: c257 :: c258 :: c259 :: c260 :: c261 :: c262 :: c263 :: c264 :: c265 :: c266 :: c267 :: c268 :: c269 :: c270 :: c271 :: c272 :: c273 :: c274 :: c275 :: c276 :: c277 :: c278 :: c279 :: c280 :: c281 :: c282 :: c283 :: c284 :: c285 :: c286 :: c287 :: c288 :: c289 :: c290 :: c291 :: c292 :: c293 :: c294 :: c295 :: c296 :: c297 :: c298 :: c299 :: c300 :: c301 :: c302 :: c303 :: c304 :: c305 :: c306 :: c307 :: c308 :: c309 :: c310 :: c311 :: c312 :: c313 :: c314 :: c315 :: c316 :: c317 :: c318 :: c319 :: c320 :: []).toArray, []⟩ w := by
  conv => arg 2; arg 1; whnf
  have HS := Lib.hid hs
  have HWl := Lib.hid hWl
  have HK := Lib.hid hk
  have HW := Lib.hid hw
  have HV := Lib.hid hv
  clear hs hWl hk hw hv
  go_loopw [17, 18] (fun v vi wr => ∃ i g c : Nat, i ≤ 64 ∧ vi = .int .i64 i ∧ v = .slice (some ⟨g, 0, none⟩) 8 c ∧ 8 ≤ c ∧ w.grownBy wr none ∧ g < wr.heap.size ∧ (g = vg ∨ w.heap.size ≤ g) ∧ Eight wr g (s.run Sha.ks W i)) (fun _ vi _ => 64 - (intOf vi).toNat)
  case atStart => exact ⟨0, vg, vc, Nat.zero_le _, rfl, rfl, hvc, grown_refl _ _, hvl, .inl rfl, HV.out⟩
  case round =>
    obtain ⟨i, g, c, hi, rfl, rfl, hc, hg, hgl, hor, hE⟩ := hrel
    by_cases hlt : i < 64
    · obtain ⟨kk, hkk⟩ : ∃ x, x = Sha.ks.getD i 0 := ⟨_, rfl⟩
      obtain ⟨ww, hww⟩ : ∃ x, x = W.getD i 0 := ⟨_, rfl⟩
      obtain ⟨r, hr⟩ : ∃ r, r = s.run Sha.ks W i := ⟨_, rfl⟩
      have HR : Hid (s.run Sha.ks W (i + 1) = r.step kk ww) := Lib.hid (by rw [hr, hkk, hww]; rfl)
      have hok : r.ok := by rw [hr]; exact Sha.St.run_ok HS.out i
      obtain ⟨b1, b2, b3, b4, b5, b6, b7, b8⟩ := hok
      have kl : kk < 4294967296 := by rw [hkk]; exact Sha.getD_lt (by decide) ks_lt _
      have wl : ww < 4294967296 := by rw [hww]; exact Sha.getD_lt (by decide) HWl.out _
      have fk : wr.cell? ⟨kg, i, none⟩ = some (.int .i64 (kk : Nat)) := by rw [hkk, World.cell?_of_block (hg.block kg hkl (by simp))]; exact HK.out i hlt
      have fw : wr.cell? ⟨wg, i, none⟩ = some (.int .i64 (ww : Nat)) := by rw [hww, World.cell?_of_block (hg.block wg hwl (by simp))]; exact HW.out i hlt
      rw [← hr] at hE
      have v0 : wr.cell? ⟨g, 0, none⟩ = some (.int .i64 (r.a : Nat)) := hE 0 (by decide)
      have v1 : wr.cell? ⟨g, 1, none⟩ = some (.int .i64 (r.b : Nat)) := hE 1 (by decide)
      have v2 : wr.cell? ⟨g, 2, none⟩ = some (.int .i64 (r.c : Nat)) := hE 2 (by decide)
      have v3 : wr.cell? ⟨g, 3, none⟩ = some (.int .i64 (r.d : Nat)) := hE 3 (by decide)
      have v4 : wr.cell? ⟨g, 4, none⟩ = some (.int .i64 (r.e : Nat)) := hE 4 (by decide)
      have v5 : wr.cell? ⟨g, 5, none⟩ = some (.int .i64 (r.f : Nat)) := hE 5 (by decide)
      have v6 : wr.cell? ⟨g, 6, none⟩ = some (.int .i64 (r.g : Nat)) := hE 6 (by decide)
      have v7 : wr.cell? ⟨g, 7, none⟩ = some (.int .i64 (r.h : Nat)) := hE 7 (by decide)
      have HG := Lib.hid hg
      clear hE hr hkk hww hg hor
      obtain ⟨h1, hh1⟩ : ∃ x, x = Sha.high r.e 6 11 25 := ⟨_, rfl⟩
      obtain ⟨h2, hh2⟩ : ∃ x, x = Sha.high r.a 2 13 22 := ⟨_, rfl⟩
      obtain ⟨ch, hch⟩ : ∃ x, x = Sha.ch r.e r.f r.g := ⟨_, rfl⟩
      obtain ⟨mj, hmj⟩ : ∃ x, x = Sha.maj r.a r.b r.c := ⟨_, rfl⟩
      have l1 : h1 < 4294967296 := by rw [hh1]; exact Sha.high_lt _ _ _ _ b5
      have l2 : h2 < 4294967296 := by rw [hh2]; exact Sha.high_lt _ _ _ _ b1
      have l3 : ch < 4294967296 := by rw [hch]; exact Sha.ch_lt _ _ _ b5
      have l4 : mj < 4294967296 := by rw [hmj]; exact Sha.maj_lt _ _ _ b1 b2
      have e1 := i64_high r.e 6 11 25 b5
      have e2 := i64_high r.a 2 13 22 b1
      have e3 := i64_ch r.e r.f r.g b5 b6 b7
      have e4 := i64_maj r.a r.b r.c b1 b2 b3
      rw [← hh1] at e1; rw [← hh2] at e2; rw [← hch] at e3; rw [← hmj] at e4
      have hst := step_form r kk ww
      rw [← hh1, ← hh2, ← hch, ← hmj] at hst
      have HST := Lib.hid hst
      have HV1 := Lib.hid (mask7 r.h h1 ch kk ww h2 mj b8 l1 l3 kl wl l2 l4)
      have HV2 := Lib.hid (mask6 r.d r.h h1 ch kk ww b4 b8 l1 l3 kl wl)
      clear hh1 hh2 hch hmj hst

      go_wp2
      go_quiet (fail)
      go_wp2
      go_quiet (fail)
      go_wp2
      have E2 := Lib.hid e2
      have V4 := Lib.hid v4
      have L24 := Lib.hid (And.intro l2 l4)
      have V := Lib.hid (And.intro v1 (And.intro v2 (And.intro v3 (And.intro v5 v6))))
      have BB := Lib.hid (And.intro b2 (And.intro b3 (And.intro b4 (And.intro b6 b7))))
      clear e2 e3 e4 l2 l4 v1 v2 v3 v5 v6 b2 b3 b4 b6 b7 hvc hkc hwc hkl hwl hvl hgl hi hc
      refine wp_region_quiet_lit (by kernel_rfl) (by kernel_rfl) ?_
      repeat (go_big_quiet_step (fail))
      refine wpQuiet_call (by rfl) 64 #[.int .i64 (r.e : Int), .int .i64 6] (.int .i64 (Sha.rotr r.e 6 : Nat)) (fun _ => by simp [go_sem]) (turnC r.e 6 6 rfl b5 (by omega) (by omega) _) ?_
      simp only [Act.put, List.setIfInBounds_toArray, List.set_cons_succ, List.set_cons_zero]
      repeat (go_big_quiet_step (fail))
      refine wpQuiet_call (by rfl) 64 #[.int .i64 (r.e : Int), .int .i64 11] (.int .i64 (Sha.rotr r.e 11 : Nat)) (fun _ => by simp [go_sem]) (turnC r.e 11 11 rfl b5 (by omega) (by omega) _) ?_
      simp only [Act.put, List.setIfInBounds_toArray, List.set_cons_succ, List.set_cons_zero]
      repeat (go_big_quiet_step (fail))
      refine wpQuiet_call (by rfl) 64 #[.int .i64 (r.e : Int), .int .i64 25] (.int .i64 (Sha.rotr r.e 25 : Nat)) (fun _ => by simp [go_sem]) (turnC r.e 25 25 rfl b5 (by omega) (by omega) _) ?_
      simp only [Act.put, List.setIfInBounds_toArray, List.set_cons_succ, List.set_cons_zero]
      repeat (go_big_quiet_step (fail))
      refine wpQuiet_nil ?_
      rintro _ ⟨n1, rfl⟩
      go_wp2
      have hs1 : (r.h : Int) + (h1 : Int) + (ch : Int) + (kk : Int) + (ww : Int) = ((r.h + h1 + ch + kk + ww : Nat) : Int) := by omega
      obtain ⟨T, hT⟩ : ∃ T, T = r.h + h1 + ch + kk + ww := ⟨_, rfl⟩
      have hTl : T < 21474836480 := by omega
      rw [← hT] at hs1
      rw [hs1]
      have HT := Lib.hid hT
      have K8 := Lib.hid (And.intro b8 (And.intro l1 (And.intro l3 (And.intro kl wl))))
      clear e1 hs1 hT b8 l1 l3 kl wl v4 v7 fk fw b5
      have e2 := E2.out
      have l2 := L24.out.1
      have l4 := L24.out.2
      refine wp_region_quiet_lit (by kernel_rfl) (by kernel_rfl) ?_
      repeat (go_big_quiet_step (fail))
      refine wpQuiet_call (by rfl) 64 #[.int .i64 (r.a : Int), .int .i64 2] (.int .i64 (Sha.rotr r.a 2 : Nat)) (fun _ => by simp [go_sem]) (turnC r.a 2 2 rfl b1 (by omega) (by omega) _) ?_
      simp only [Act.put, List.setIfInBounds_toArray, List.set_cons_succ, List.set_cons_zero]
      repeat (go_big_quiet_step (fail))
      refine wpQuiet_call (by rfl) 64 #[.int .i64 (r.a : Int), .int .i64 13] (.int .i64 (Sha.rotr r.a 13 : Nat)) (fun _ => by simp [go_sem]) (turnC r.a 13 13 rfl b1 (by omega) (by omega) _) ?_
      simp only [Act.put, List.setIfInBounds_toArray, List.set_cons_succ, List.set_cons_zero]
      repeat (go_big_quiet_step (fail))
      refine wpQuiet_call (by rfl) 64 #[.int .i64 (r.a : Int), .int .i64 22] (.int .i64 (Sha.rotr r.a 22 : Nat)) (fun _ => by simp [go_sem]) (turnC r.a 22 22 rfl b1 (by omega) (by omega) _) ?_
      simp only [Act.put, List.setIfInBounds_toArray, List.set_cons_succ, List.set_cons_zero]
      repeat (go_big_quiet_step (fail))
      refine wpQuiet_nil ?_
      rintro _ ⟨n2, rfl⟩
      go_wp2
      have v1 := V.out.1
      have v2 := V.out.2.1
      have v3 := V.out.2.2.1
      have v5 := V.out.2.2.2.1
      have v6 := V.out.2.2.2.2
      have v4 : wr.cell? ⟨g, 4, none⟩ = some (.int .i64 (r.e : Nat)) := V4.out
      have b4 := BB.out.2.2.1
      clear e2
      obtain ⟨U, hU⟩ : ∃ U, U = h2 + mj := ⟨_, rfl⟩
      have hU1 : (h2 : Int) + (mj : Int) = (U : Int) := by omega
      have hUl : U < 8589934592 := by omega
      have HU := Lib.hid hU
      rw [hU1]
      clear hU hU1 l2 l4
      simp only [World.drewN_drewN]
      refine wp_region_quiet_tail (fun w' => ∃ n, w' = wr.drewN n) 28 (by kernel_rfl) (by kernel_rfl) (drewAny wr _) ?_
      simp only [List.take_succ_cons, List.take_zero, List.drop_succ_cons, List.drop_zero]
      repeat (go_big_quiet_step (fail))
      refine wpQuiet_nil ?_
      rintro _ ⟨n3, rfl⟩
      have HE' : Hid (bits .and .i64 ((T : Int) + (U : Int)) 4294967295 = (((r.h + h1 + ch + kk + ww + (h2 + mj)) % 4294967296 : Nat) : Int)) := Lib.hid (by
        rw [← HT.out, ← HU.out]; exact i64_mask (T + U) (by omega))
      have HF' : Hid (bits .and .i64 ((r.d : Int) + (T : Int)) 4294967295 = (((r.d + (r.h + h1 + ch + kk + ww)) % 4294967296 : Nat) : Int)) := Lib.hid (by
        rw [← HT.out]; exact i64_mask (r.d + T) (by omega))
      rw [HE'.out, HF'.out]
      clear v0 v1 v2 v3 v4 v5 v6
      go_wp2
      go_roundw
      case rel =>
        have hq := alloc_at (wr.drewN n3) (.cells (intL (r.step kk ww).list).toArray 3)
        rw [HST.out] at hq
        refine ⟨i + 1, wr.heap.size, 8, by omega, by go_num, rfl, by omega, grown_alloc (grown_drewN HG.out n3) _, by rw [alloc_size]; exact Nat.lt_succ_self _, .inr HG.out.size, ?_⟩
        rw [HR.out, HST.out]
        intro j hj
        match j, hj with
        | 0, _ => exact cell_blk hq 0 rfl
        | 1, _ => exact cell_blk hq 1 rfl
        | 2, _ => exact cell_blk hq 2 rfl
        | 3, _ => exact cell_blk hq 3 rfl
        | 4, _ => exact cell_blk hq 4 rfl
        | 5, _ => exact cell_blk hq 5 rfl
        | 6, _ => exact cell_blk hq 6 rfl
        | 7, _ => exact cell_blk hq 7 rfl
      case measure => simp [intOf]; omega
    · obtain rfl : i = 64 := by omega
      have HG := Lib.hid hg
      have HE := Lib.hid hE
      have HOR := Lib.hid hor
      clear hg hE hor
      go_wp2
      exact hQ.out _ _ _ _ _ _ _ _ _ _ _ _ _ _ _ _ _ _ _ _ _ _ _ _ _ _ _ _ _ _ _ _ _ _ _ _ _ _ _ _ _ _ _ _ _ _ _ _ _ _ _ _ _ _ _ _ _ _ _ _ _ _ _ _ _ _ _ _ _ _ _ _ _ _ _ _ _ _ _ _ _ _ _ _ _ _ _ _ _ _ _ _ _ _ _ _ _ _ _ _ _ _ _ _ _ _ _ _ _ _ _ _ _ _ _ _ _ _ _ _ _ _ _ _ _ _ HG.out hc hgl HOR.out HE.out
end Go.Proofs.YtgdnndapmcjoeaaDoor
namespace Go.Proofs.YtgdnndapmcjoeaaDoor
open Go.RowKit
set_option linter.unusedVariables false
theorem intL_set (l : List Nat) (i x : Nat) : (intL l).toArray.setIfInBounds i (.int .i64 (x : Int)) = (intL (l.set i x)).toArray := by
  simp [intL, List.map_set]
theorem add_list (s r : Sha.St) (i : Nat) (hi : i < 8) : (s.add r).list.getD i 0 = (s.list.getD i 0 + r.list.getD i 0) % 4294967296 := by
  match i, hi with
  | 0, _ => rfl
  | 1, _ => rfl
  | 2, _ => rfl
  | 3, _ => rfl
  | 4, _ => rfl
  | 5, _ => rfl
  | 6, _ => rfl
  | 7, _ => rfl
def mixL (s r : Sha.St) (i : Nat) : List Nat := (s.add r).list.take i ++ s.list.drop i
theorem mixL_at (s r : Sha.St) (i : Nat) (hi : i < 8) : (mixL s r i)[i]? = some (s.list.getD i 0) := by
  have h1 : ((s.add r).list.take i).length = i := by rw [List.length_take]; show min i 8 = i; omega
  have h2 : s.list.length = 8 := rfl
  rw [mixL, List.getElem?_append_right (by omega), h1, Nat.sub_self, List.getElem?_drop, Nat.add_zero, List.getElem?_eq_getElem (by omega), List.getD_eq_getElem?_getD, List.getElem?_eq_getElem (by omega)]
  rfl
theorem mixL_set (s r : Sha.St) (i : Nat) (hi : i < 8) : (mixL s r i).set i ((s.add r).list.getD i 0) = mixL s r (i + 1) := by
  match i, hi with
  | 0, _ => rfl
  | 1, _ => rfl
  | 2, _ => rfl
  | 3, _ => rfl
  | 4, _ => rfl
  | 5, _ => rfl
  | 6, _ => rfl
  | 7, _ => rfl
set_option maxRecDepth 1000000 in
set_option maxHeartbeats 2000000 in
theorem ref_loop7 {c0 c1 c2 c3 c4 c5 c6 c8 c9 c10 c11 c12 c13 c14 c15 c16 c18 c19 c20 c21 c22 c23 c24 c25 c26 c27 c28 c29 c30 c31 c32 c33 c34 c35 c36 c37 c38 c39 c40 c41 c42 c43 c44 c45 c46 c47 c48 c49 c50 c51 c52 c53 c54 c55 c56 c57 c58 c59 c60 c61 c62 c63 c64 c65 c66 c67 c68 c69 c70 c71 c72 c73 c74 c75 c76 c77 c78 c79 c80 c81 c82 c83 c84 c85 c86 c87 c88 c89 c90 c91 c92 c93 c94 c95 c96 c97 c98 c99 c100 c101 c102 c103 c104 c105 c106 c107 c108 c109 c110 c111 c112 c113 c114 c115 c116 c117 c118 c119 c120 c121 c122 c123 c124 c125 c126 c127 c128 c129 c130 c131 c132 c133 c134 c135 c136 c137 c138 c139 c140 c141 c142 c143 c144 c145 c146 c147 c148 c149 c150 c151 c152 c153 c154 c155 c156 c157 c158 c159 c160 c161 c162 c163 c164 c165 c166 c167 c168 c169 c170 c171 c172 c173 c174 c175 c176 c177 c178 c179 c180 c181 c182 c183 c184 c185 c186 c187 c188 c189 c190 c191 c192 c193 c194 c195 c196 c197 c198 c199 c200 c201 c202 c203 c204 c205 c206 c207 c208 c209 c210 c211 c212 c213 c214 c215 c216 c217 c218 c219 c220 c221 c222 c223 c224 c225 c226 c227 c228 c229 c230 c231 c232 c233 c234 c235 c236 c237 c238 c239 c240 c241 c242 c243 c244 c245 c246 c247 c248 c249 c250 c251 c252 c253 c254 c255 c256 c257 c258 c259 c260 c261 c262 c263 c264 c265 c266 c267 c268 c269 c270 c271 c272 c273 c274 c275 c276 c279 c280 c281 c282 c283 c284 c285 c286 c287 c288 c289 c290 c291 c292 c293 c294 c295 c296 c297 c298 c299 c300 c301 c302 c303 c304 c305 c306 c307 c308 c309 c310 c311 c312 c313 c314 c315 c316 c317 c318 c319 c320 : Value} {hb vg vc : Nat} (s r : Sha.St) (Q : Exit → Act → World → Prop) (w : World) (hs : s.ok) (hr : r.ok) (hvc : 8 ≤ vc) (hne : vg ≠ hb) (hvl : vg < w.heap.size)
    (hh : w.heap[hb]? = some (.cells (intL s.list).toArray 3 (0, 0))) (hv : Eight w vg r)
    (hQ : Hid (∀ (u23 u278 u279 u280 u281 u282 u283 u284 u285 u286 u287 u288 u289 u290 u291 u292 u293 u294 : Value) (w' : World), w.grownBy w' (some hb) → w'.heap[hb]? = some (.cells (intL (s.add r).list).toArray 3 (0, 0)) → Q (.exit 12) ⟨(c0 :: c1 :: c2 :: c3 :: c4 :: c5 :: c6 :: (.slice (some ⟨hb, 0, none⟩) 8 8) :: c8 :: c9 :: c10 :: c11 :: c12 :: c13 :: c14 :: c15 :: c16 :: (.slice (some ⟨vg, 0, none⟩) 8 vc) :: c18 :: c19 :: c20 :: c21 :: c22 :: u23 :: c24 :: c25 :: c26 :: c27 :: c28 :: c29 :: c30 :: c31 :: c32 :: c33 :: c34 :: c35 :: c36 :: c37 :: c38 :: c39 :: c40 :: c41 :: c42 :: c43 :: c44 :: c45 :: c46 :: c47 :: c48 :: c49 :: c50 :: c51 :: c52 :: c53 :: c54 :: c55 :: c56 :: c57 :: c58 :: c59 :: c60 :: c61 :: c62 :: c63 :: c64 :: c65 :: c66 :: c67 :: c68 :: c69 :: c70 :: c71 :: c72 :: c73 :: c74 :: c75 :: c76 :: c77 :: c78 :: c79 :: c80 :: c81 :: c82 :: c83 :: c84 :: c85 :: c86 :: c87 :: c88 :: c89 :: c90 :: c91 :: c92 :: c93 :: c94 :: c95 :: c96 :: c97 :: c98 :: c99 :: c100 :: c101 :: c102 :: c103 :: c104 :: c105 :: c106 :: c107 :: c108 :: c109 :: c110 :: c111 :: c112 :: c113 :: c114 :: c115 :: c116 :: c117 :: c118 :: c119 :: c120 :: c121 :: c122 :: c123 :: c124 :: c125 :: c126 :: c127 :: c128 :: c129 :: c130 :: c131 :: c132 :: c133 :: c134 :: c135 :: c136 :: c137 :: c138 :: c139 :: c140 :: c141 :: c142 :: c143 :: c144 :: c145 :: c146 :: c147 :: c148 :: c149 :: c150 :: c151 :: c152 :: c153 :: c154 :: c155 :: c156 :: c157 :: c158 :: c159 :: c160 :: c161 :: c162 :: c163 :: c164 :: c165 :: c166 :: c167 :: c168 :: c169 :: c170 :: c171 :: c172 :: c173 :: c174 :: c175 :: c176 :: c177 :: c178 :: c179 :: c180 :: c181 :: c182 :: c183 :: c184 :: c185 :: c186 :: c187 :: c188 :: c189 :: c190 :: c191 :: c192 :: c193 :: c194 :: c195 :: c196 :: c197 :: c198 :: c199 :: c200 :: c201 :: c202 :: c203 :: c204 :: c205 :: c206 :: c207 :: c208 :: c209 :: c210 :: c211 :: c212 :: c213 :: c214 :: c215 :: c216 :: c217 :: c218 :: c219 :: c220 :: c221 :: c222 :: c223 :: c224 :: c225 :: c226 :: c227 :: c228 :: c229 :: c230 :: c231 :: c232 :: c233 :: c234 :: c235 :: c236 :: c237 :: c238 :: c239 :: c240 :: c241 :: c242 :: c243 :: c244 :: c245 :: c246 :: c247 :: c248 :: c249 :: c250 :: c251 :: c252 :: c253 :: c254 :: c255 :: c256 :: c257 :: c258 :: c259 :: c260 :: c261 :: c262 :: c263 :: c264 :: c265 :: c266 :: c267 :: c268 :: c269 :: c270 :: c271 :: c272 :: c273 :: c274 :: c275 :: c276 :: (.int .i64 8) :: u278 :: u279 :: u280 :: u281 :: u282 :: u283 :: u284 :: u285 :: u286 :: u287 :: u288 :: u289 :: u290 :: u291 :: u292 :: u293 :: u294 :: c295 :: c296 :: c297 :: c298 :: c299 :: c300 :: c301 :: c302 :: c303 :: c304 :: c305 :: c306 :: c307 :: c308 :: c309 :: c310 :: c311 :: c312 :: c313 :: c314 :: c315 :: c316 :: c317 :: c318 :: c319 :: c320 :: []).toArray, []⟩ w')) :
    Code.wp Tryd.prog (Code.loop (refLoop 6)) Q ⟨(c0 :: c1 :: c2 :: c3 :: c4 :: c5 :: c6 :: (.slice (some ⟨hb, 0, none⟩) 8 8) :: c8 :: c9 :: c10 :: c11 :: c12 :: c13 :: c14 :: c15 :: c16 :: (.slice (some ⟨vg, 0, none⟩) 8 vc) :: c18 :: c19 :: c20 :: c21 :: c22 :: c23 :: c24 :: c25 :: c26 :: c27 :: c28 :: c29 :: c30 :: c31 :: c32 :: c33 :: c34 :: c35 :: c36 :: c37 :: c38 :: c39 :: c40 :: c41 :: c42 :: c43 :: c44 :: c45 :: c46 :: c47 :: c48 :: c49 :: c50 :: c51 :: c52 :: c53 :: c54 :: c55 :: c56 :: c57 :: c58 :: c59 :: c60 :: c61 :: c62 :: c63 :: c64 :: c65 :: c66 :: c67 :: c68 :: c69 :: c70 :: c71 :: c72 :: c73 :: c74 :: c75 :: c76 :: c77 :: c78 :: c79 :: c80 :: c81 :: c82 :: c83 :: c84 :: c85 :: c86 :: c87 :: c88 :: c89 :: c90 :: c91 :: c92 :: c93 :: c94 :: c95 :: c96 :: c97 :: c98 :: c99 :: c100 :: c101 :: c102 :: c103 :: c104 :: c105 :: c106 :: c107 :: c108 :: c109 :: c110 :: c111 :: c112 :: c113 :: c114 :: c115 :: c116 :: c117 :: c118 :: c119 :: c120 :: c121 :: c122 :: c123 :: c124 :: c125 :: c126 :: c127 :: c128 :: c129 :: c130 :: c131 :: c132 :: c133 :: c134 :: c135 :: c136 :: c137 :: c138 :: c139 :: c140 :: c141 :: c142 :: c143 :: c144 :: c145 :: c146 :: c147 :: c148 :: c149 :: c150 :: c151 :: c152 :: c153 :: c154 :: c155 :: c156 :: c157 :: c158 :: c159 :: c160 :: c161 :: c162 :: c163 :: c164 :: c165 :: c166 :: c167 :: c168 :: c169 :: c170 :: c171 :: c172 :: c173 :: c174 :: c175 :: c176 :: c177 :: c178 :: c179 :: c180 :: c181 :: c182 :: c183 :: c184 :: c185 :: c186 :: c187 :: c188 :: c189 :: c190 :: c191 :: c192 :: c193 :: c194 :: c195 :: c196 :: c197 :: c198 :: c199 :: c200 :: c201 :: c202 :: c203 :: c204 :: c205 :: c206 :: c207 :: c208 :: c209 :: c210 :: c211 :: c212 :: c213 :: c214 :: c215 :: c216 :: c217 :: c218 :: c219 :: c220 :: c221 :: c222 :: c223 :: c224 :: c225 :: c226 :: c227 :: c228 :: c229 :: c230 :: c231 :: c232 :: c233 :: c234 :: c235 :: c236 :: c237 :: c238 :: c239 :: c240 :: c241 :: c242 :: c243 :: c244 :: c245 :: c246 :: c247 :: c248 :: c249 :: c250 :: c251 :: c252 :: c253 :: c254 :: c255 :: c256 :: c257 :: c258 :: c259 :: c260 :: c261 :: c262 :: c263 :: c264 :: c265 :: c266 :: c267 :: c268 :: c269 :: c270 :: c271 :: c272 :: c273 :: c274 :: c275 :: c276 :: (.int .i64 8) :: (.int .i64 0) :: c279 :: c280 :: c281 :: c282 :: c283 :: c284 :: c285 :: c286 :: c287 :: c288 :: c289 :: c290 :: c291 :: c292 :: c293 :: c294 :: c295 :: c296 :: c297 :: c298 :: c299 :: c300 :: c301 :: c302 :: c303 :: c304 :: c305 :: c306 :: c307 :: c308 :: c309 :: c310 :: c311 :: c312 :: c313 :: c314 :: c315 :: c316 :: c317 :: c318 :: c319 :: c320 :: []).toArray, []⟩ w := by
  conv => arg 2; arg 1; whnf
  have Hs := Lib.hid (Sha.St.list_lt hs)
  have Hr := Lib.hid (Sha.St.list_lt hr)
  have HH := Lib.hid hh
  have HV := Lib.hid hv
  clear hs hr hh hv
  go_loopw [278] (fun vi wr => ∃ i : Nat, i ≤ 8 ∧ vi = .int .i64 i ∧ w.grownBy wr (some hb) ∧ wr.heap[hb]? = some (.cells (intL (mixL s r i)).toArray 3 (0, 0))) (fun vi _ => 8 - (intOf vi).toNat)
  case atStart => exact ⟨0, Nat.zero_le _, rfl, grown_refl _ _, HH.out⟩
  case round =>
    obtain ⟨i, hi, rfl, hg, hb'⟩ := hrel
    by_cases hlt : i < 8
    · obtain ⟨x, hx⟩ : ∃ x, x = s.list.getD i 0 := ⟨_, rfl⟩
      obtain ⟨y, hy⟩ : ∃ y, y = r.list.getD i 0 := ⟨_, rfl⟩
      have lx : x < 4294967296 := by rw [hx]; exact Sha.getD_lt (by decide) Hs.out _
      have ly : y < 4294967296 := by rw [hy]; exact Sha.getD_lt (by decide) Hr.out _
      have f1 : wr.cell? ⟨hb, i, none⟩ = some (.int .i64 (x : Int)) := cell_blk hb' i (by simp [intL, mixL_at s r i hlt, hx])
      have f2 : wr.frozen? ⟨hb, i, none⟩ = false := free_blk hb' i
      have f3 : wr.cell? ⟨vg, i, none⟩ = some (.int .i64 (y : Int)) := by rw [hy, World.cell?_of_block (hg.block vg hvl (by simp; omega))]; exact HV.out i hlt
      have HE : Hid (bits .and .i64 ((x : Int) + (y : Int)) 4294967295 = (((x + y) % 4294967296 : Nat) : Int)) := Lib.hid (i64_mask (x + y) (by omega))
      have HM : Hid ((mixL s r i).set i ((x + y) % 4294967296) = mixL s r (i + 1)) := Lib.hid (by rw [← mixL_set s r i hlt, add_list s r i hlt, hx, hy])
      have HG := Lib.hid hg
      have HB := Lib.hid hb'
      clear hx hy hg hb'
      go_wp2
      refine wp_region_quiet_tail (fun w' => ∃ n, w' = wr.drewN n) 13 (by kernel_rfl) (by kernel_rfl) ⟨1, rfl⟩ ?_
      simp only [List.take_succ_cons, List.take_zero, List.drop_succ_cons, List.drop_zero]
      repeat (go_big_quiet_step (fail))
      refine wpQuiet_nil ?_
      rintro _ ⟨nq, rfl⟩
      rw [HE.out]
      go_wp2
      go_roundw
      case rel =>
        refine ⟨i + 1, by omega, by go_num, grown_set (grown_drewN HG.out nq) (.inr rfl) _, ?_⟩
        rw [← HM.out, ← intL_set]
        exact setCell_heap (show (wr.drewN nq).heap[hb]? = _ from HB.out) _
      case measure => simp [intOf]; omega
    · obtain rfl : i = 8 := by omega
      have HG := Lib.hid hg
      have HB := Lib.hid hb'
      clear hg hb'
      go_wp2
      exact hQ.out _ _ _ _ _ _ _ _ _ _ _ _ _ _ _ _ _ _ _ HG.out HB.out
end Go.Proofs.YtgdnndapmcjoeaaDoor
