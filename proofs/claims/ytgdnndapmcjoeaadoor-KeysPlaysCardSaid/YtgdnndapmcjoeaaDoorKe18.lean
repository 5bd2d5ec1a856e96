import Derived.Test.YtgdnndapmcjoeaaDoorKe07
import Derived.Test.YtgdnndapmcjoeaaDoorKe17
namespace Go.Proofs.YtgdnndapmcjoeaaDoor
open Go.RowKit
set_option linter.unusedVariables false
theorem intL_snoc (l : List Nat) (x : Nat) : intL (l ++ [x]) = intL l ++ [.int .i64 (x : Int)] := by simp [intL]
set_option maxRecDepth 1000000 in
set_option maxHeartbeats 4000000 in
theorem ref_loop4 {c0 c1 c2 c4 c5 c6 c7 c11 c12 c13 c14 c15 c16 c17 c18 c19 c20 c21 c22 c23 c24 c25 c26 c27 c28 c29 c30 c31 c32 c33 c34 c35 c36 c37 c38 c39 c40 c41 c42 c43 c44 c45 c46 c47 c48 c49 c50 c51 c52 c53 c54 c55 c56 c57 c58 c59 c60 c61 c62 c63 c64 c65 c66 c67 c68 c69 c70 c71 c72 c73 c74 c75 c76 c77 c78 c79 c80 c81 c82 c83 c84 c85 c86 c87 c88 c89 c90 c91 c92 c93 c94 c95 c96 c97 c98 c99 c100 c101 c102 c103 c104 c105 c106 c107 c108 c109 c110 c111 c112 c113 c114 c115 c116 c117 c118 c119 c120 c121 c122 c123 c124 c125 c126 c127 c128 c129 c130 c131 c132 c133 c134 c135 c136 c137 c138 c139 c140 c141 c142 c143 c144 c145 c146 c147 c148 c149 c150 c151 c152 c153 c154 c155 c156 c157 c158 c159 c160 c161 c162 c163 c164 c165 c166 c167 c168 c169 c170 c171 c172 c173 c174 c175 c176 c177 c178 c179 c180 c181 c182 c183 c184 c185 c186 c187 c188 c189 c190 c191 c192 c193 c194 c195 c196 c197 c198 c199 c200 c201 c202 c203 c204 c205 c206 c207 c208 c209 c210 c211 c212 c213 c214 c215 c216 c217 c218 c219 c220 c221 c222 c223 c224 c225 c226 c227 c228 c229 c230 c231 c232 c233 c234 c235 c236 c237 c238 c239 c240 c241 c242 c243 c244 c245 c246 c247 c248 c249 c250 c251 c252 c253 c254 c255 c256 c257 c258 c259 c260 c261 c262 c263 c264 c265 c266 c267 c268 c269 c270 c271 c272 c273 c274 c275 c276 c277 c278 c279 c280 c281 c282 c283 c284 c285 c286 c287 c288 c289 c290 c291 c292 c293 c294 c295 c296 c297 c298 c299 c300 c301 c302 c303 c304 c305 c306 c307 c308 c309 c310 c311 c312 c313 c314 c315 c316 c317 c318 c319 c320 v : Value} (P : List Nat) (g n cap A : Nat) (Q : Exit → Act → World → Prop) (w0 w : World) (hP : ∀ x ∈ P, x < 256) (hn : P.length = n) (hc : n ≤ cap) (hA : A + 64 ≤ n) (hn2 : n < 1099511627776) (hgl : g < w0.heap.size)
    (hall : ∀ j, j < n → w0.cell? ⟨g, j, none⟩ = some (.int .u8 (P.getD j 0 : Nat))) (hg : w0.grownBy w none) (ho : w.ownsRow w0.heap.size 3 1 v 0 [])
    (hQ : Hid (∀ (u9 u10 u11 u66 u67 u68 u69 u70 u71 u72 u73 u74 u75 u76 u77 u78 u79 u80 u81 u82 u83 u84 u85 u86 u87 u88 u89 u90 u91 u92 u93 u94 u95 u96 u97 u98 u99 u100 u101 u102 u103 u104 u105 : Value) (w' : World), w0.grownBy w' none → w'.ownsRow w0.heap.size 3 1 u9 16 (intL (Sha.words ((P.drop A).take 64) 16)) → Q (.exit 6) ⟨(c0 :: c1 :: c2 :: (.slice (some ⟨g, 0, none⟩) n cap) :: c4 :: c5 :: c6 :: c7 :: (.int .i64 (A : Int)) :: u9 :: u10 :: u11 :: c12 :: c13 :: c14 :: c15 :: c16 :: c17 :: c18 :: c19 :: c20 :: c21 :: c22 :: c23 :: c24 :: c25 :: c26 :: c27 :: c28 :: c29 :: c30 :: c31 :: c32 :: c33 :: c34 :: c35 :: c36 :: c37 :: c38 :: c39 :: c40 :: c41 :: c42 :: c43 :: c44 :: c45 :: c46 :: c47 :: c48 :: c49 :: c50 :: c51 :: c52 :: c53 :: c54 :: c55 :: c56 :: c57 :: c58 :: c59 :: c60 :: c61 :: c62 :: c63 :: c64 :: c65 :: u66 :: u67 :: u68 :: u69 :: u70 :: u71 :: u72 :: u73 :: u74 :: u75 :: u76 :: u77 :: u78 :: u79 :: u80 :: u81 :: u82 :: u83 :: u84 :: u85 :: u86 :: u87 :: u88 :: u89 :: u90 :: u91 :: u92 :: u93 :: u94 :: u95 :: u96 :: u97 :: u98 :: u99 :: u100 :: u101 :: u102 :: u103 :: u104 :: u105 :: c106 :: c107 :: c108 :: c109 :: c110 :: c111 :: c112 :: c113 :: c114 :: c115 :: c116 :: c117 :: c118 :: c119 :: c120 :: c121 :: c122 :: c123 :: c124 :: c125 :: c126 :: c127 :: c128 :: c129 :: c130 :: c131 :: c132 :: c133 :: c134 :: c135 :: c136 :: c137 :: c138 :: c139 :: c140 :: c141 :: c142 :: c143 :: c144 :: c145 :: c146 :: c147 :: c148 :: c149 :: c150 :: c151 :: c152 :: c153 :: c154 :: c155 :: c156 :: c157 :: c158 :: c159 :: c160 :: c161 :: c162 :: c163 :: c164 :: c165 :: c166 :: c167 :: c168 :: c169 :: c170 :: c171 :: c172 :: c173 :: c174 :: c175 :: c176 :: c177 :: c178 :: c179 :: c180 :: c181 :: c182 :: c183 :: c184 :: c185 :: c186 :: c187 :: c188 :: c189 :: c190 :: c191 :: c192 :: c193 :: c194 :: c195 :: c196 :: c197 :: c198 :: c199 :: c200 :: c201 :: c202 :: c203 :: c204 :: c205 :: c206 :: c207 :: c208 :: c209 :: c210 :: c211 :: c212 :: c213 :: c214 :: c215 :: c216 :: c217 :: c218 :: c219 :: c220 :: c221 :: c222 :: c223 :: c224 :: c225 :: c226 :: c227 :: c228 :: c229 :: c230 :: c231 :: c232 :: c233 :: c234 :: c235 :: c236 :: c237 :: c238 :: c239 :: c240 :: c241 :: c242 :: c243 :: c244 :: c245 :: c246 :: c247 :: c248 :: c249 :: c250 :: c251 :: c252 :: c253 :: c254 :: c255 :: c256 :: c257 :: c258 :: c259 :: c260 :: c261 :: c262 :: c263 :: c264 :: c265 :: c266 :: c267 :: c268 :: c269 :: c270 :: c271 :: c272 :: c273 :: c274 :: c275 :: c276 :: c277 :: c278 :: c279 :: c280 :: c281 :: c282 :: c283 :: c284 :: c285 :: c286 :: c287 :: c288 :: c289 :: c290 :: c291 :: c292 :: c293 :: c294 :: c295 :: c296 :: c297 :: c298 :: c299 :: c300 :: c301 :: c302 :: c303 :: c304 :: c305 :: c306 :: c307 :: c308 :: c309 :: c310 :: c311 :: c312 :: c313 :: c314 :: c315 :: c316 :: c317 :: c318 :: c319 :: c320 :: []).toArray, []⟩ w')) :
    Code.wp Tryd.prog (Code.loop (refLoop 3)) Q ⟨(c0 :: c1 :: c2 :: (.slice (some ⟨g, 0, none⟩) n cap) :: c4 :: c5 :: c6 :: c7 :: (.int .i64 (A : Int)) :: v :: (.int .i64 0) :: c11 :: c12 :: c13 :: c14 :: c15 :: c16 :: c17 :: c18 :: c19 :: c20 :: c21 :: c22 :: c23 :: c24 :: c25 :: c26 :: c27 :: c28 :: c29 :: c30 :: c31 :: c32 :: c33 :: c34 :: c35 :: c36 :: c37 :: c38 :: c39 :: c40 :: c41 :: c42 :: c43 :: c44 :: c45 :: c46 :: c47 :: c48 :: c49 :: c50 :: c51 :: c52 :: c53 :: c54 :: c55 :: c56 :: c57 :: c58 :: c59 :: c60 :: c61 :: c62 :: c63 :: c64 :: c65 :: c66 :: c67 :: c68 :: c69 :: c70 :: c71 :: c72 :: c73 :: c74 :: c75 :: c76 :: c77 :: c78 :: c79 :: c80 :: c81 :: c82 :: c83 :: c84 :: c85 :: c86 :: c87 :: c88 :: c89 :: c90 :: c91 :: c92 :: c93 :: c94 :: c95 :: c96 :: c97 :: c98 :: c99 :: c100 :: c101 :: c102 :: c103 :: c104 :: c105 :: c106 :: c107 :: c108 :: c109 :: c110 :: c111 :: c112 :: c113 :: c114 :: c115 :: c116 :: c117 :: c118 :: c119 :: c120 :: c121 :: c122 :: c123 :: c124 :: c125 :: c126 :: c127 :: c128 :: c129 :: c130 :: c131 :: c132 :: c133 :: c134 :: c135 :: c136 :: c137 :: c138 :: c139 :: c140 :: c141 :: c142 :: c143 :: c144 :: c145 :: c146 :: c147 :: c148 :: c149 :: c150 :: c151 :: c152 :: c153 :: c154 :: c155 :: c156 :: c157 :: c158 :: c159 :: c160 :: c161 :: c162 :: c163 :: c164 :: c165 :: c166 :: c167 :: c168 :: c169 :: c170 :: c171 :: c172 :: c173 :: c174 :: c175 :: c176 :: c177 :: c178 :: c179 :: c180 :: c181 :: c182 :: c183 :: c184 :: c185 :: c186 :: c187 :: c188 :: c189 :: c190 :: c191 :: c192 :: c193 :: c194 :: c195 :: c196 :: c197 :: c198 :: c199 :: c200 :: c201 :: c202 :: c203 :: c204 :: c205 :: c206 :: c207 :: c208 :: c209 :: c210 :: c211 :: c212 :: c213 :: c214 :: c215 :: c216 :: c217 :: c218 :: c219 :: c220 :: c221 :: c222 :: c223 :: c224 :: c225 :: c226 :: c227 :: c228 :: c229 :: c230 :: c231 :: c232 :: c233 :: c234 :: c235 :: c236 :: c237 :: c238 :: c239 :: c240 :: c241 :: c242 :: c243 :: c244 :: c245 :: c246 :: c247 :: c248 :: c249 :: c250 :: c251 :: c252 :: c253 :: c254 :: c255 :: c256 :: c257 :: c258 :: c259 :: c260 :: c261 :: c262 :: c263 :: c264 :: c265 :: c266 :: c267 :: c268 :: c269 :: c270 :: c271 :: c272 :: c273 :: c274 :: c275 :: c276 :: c277 :: c278 :: c279 :: c280 :: c281 :: c282 :: c283 :: c284 :: c285 :: c286 :: c287 :: c288 :: c289 :: c290 :: c291 :: c292 :: c293 :: c294 :: c295 :: c296 :: c297 :: c298 :: c299 :: c300 :: c301 :: c302 :: c303 :: c304 :: c305 :: c306 :: c307 :: c308 :: c309 :: c310 :: c311 :: c312 :: c313 :: c314 :: c315 :: c316 :: c317 :: c318 :: c319 :: c320 :: []).toArray, []⟩ w := by
  conv => arg 2; arg 1; whnf
  have HG := Lib.hid hg
  have HO := Lib.hid ho
  have HP := Lib.hid hP
  have Hn := Lib.hid hn
  have Hall := Lib.hid hall
  have Hb : Hid (∀ j, ((P.drop A).take 64).getD j 0 < 256) := Lib.hid (fun j => Sha.getD_lt (by decide) (fun x hx => hP x (List.mem_of_mem_drop (List.mem_of_mem_take hx))) j)
  clear hg ho hP hn hall
  go_loopw [9, 10] (fun v vi wr => ∃ i : Nat, i ≤ 16 ∧ vi = .int .i64 i ∧ w0.grownBy wr none ∧ wr.ownsRow w0.heap.size 3 1 v i (intL (Sha.words ((P.drop A).take 64) i))) (fun _ vi _ => 16 - (intOf vi).toNat)
  case atStart => exact ⟨0, Nat.zero_le _, rfl, HG.out, HO.out⟩
  case round =>
    obtain ⟨i, hi, rfl, hg, ho⟩ := hrel
    have HG' := Lib.hid hg
    have HO' := Lib.hid ho
    clear hg ho
    by_cases hlt : i < 16
    · obtain ⟨x0, h0⟩ : ∃ x, x = P.getD (A + 4 * i) 0 := ⟨_, rfl⟩
      obtain ⟨x1, h1⟩ : ∃ x, x = P.getD (A + 4 * i + 1) 0 := ⟨_, rfl⟩
      obtain ⟨x2, h2⟩ : ∃ x, x = P.getD (A + 4 * i + 2) 0 := ⟨_, rfl⟩
      obtain ⟨x3, h3⟩ : ∃ x, x = P.getD (A + 4 * i + 3) 0 := ⟨_, rfl⟩
      have l0 : x0 < 256 := by rw [h0]; exact Sha.getD_lt (by decide) HP.out _
      have l1 : x1 < 256 := by rw [h1]; exact Sha.getD_lt (by decide) HP.out _
      have l2 : x2 < 256 := by rw [h2]; exact Sha.getD_lt (by decide) HP.out _
      have l3 : x3 < 256 := by rw [h3]; exact Sha.getD_lt (by decide) HP.out _
      have cl : ∀ j, j < n → wr.cell? ⟨g, j, none⟩ = some (.int .u8 (P.getD j 0 : Nat)) := fun j hj => by rw [World.cell?_of_block (HG'.out.block g hgl (by simp))]; exact Hall.out j hj
      have g0 : wr.cell? ⟨g, A + 4 * i, none⟩ = some (.int .u8 (x0 : Nat)) := by rw [h0]; exact cl _ (by omega)
      have g1 : wr.cell? ⟨g, A + 4 * i + 1, none⟩ = some (.int .u8 (x1 : Nat)) := by rw [h1]; exact cl _ (by omega)
      have g2 : wr.cell? ⟨g, A + 4 * i + 2, none⟩ = some (.int .u8 (x2 : Nat)) := by rw [h2]; exact cl _ (by omega)
      have g3 : wr.cell? ⟨g, A + 4 * i + 3, none⟩ = some (.int .u8 (x3 : Nat)) := by rw [h3]; exact cl _ (by omega)
      have gd : ∀ j, j < 64 → ((P.drop A).take 64).getD j 0 = P.getD (A + j) 0 := fun j hj => by
        simp [List.getD_eq_getElem?_getD, hj]
      have HW : Hid (Sha.words ((P.drop A).take 64) (i + 1) = Sha.words ((P.drop A).take 64) i ++ [x0 * 16777216 + x1 * 65536 + x2 * 256 + x3]) := Lib.hid (by
        rw [Sha.words, Sha.word_sum _ _ Hb.out, gd _ (by omega), gd _ (by omega), gd _ (by omega), gd _ (by omega), h0, h1, h2, h3, Nat.add_assoc A, Nat.add_assoc A, Nat.add_assoc A])
      clear h0 h1 h2 h3 cl gd
      go_wp2
      refine wp_region_move_quiet_tail (fun w' => ∃ n, w' = wr.drewN n) 30 (.tmp 9) rfl rfl (by kernel_rfl) (by kernel_rfl) ⟨1, rfl⟩ ?_
      simp only [List.take_succ_cons, List.take_zero, List.drop_succ_cons, List.drop_zero]
      simp only [Act.put, List.setIfInBounds_toArray, List.set_cons_succ, List.set_cons_zero]
      repeat (first | go_big_quiet_step (fail) | quiet_step (fail))
      refine wpQuiet_nil ?_
      rintro _ ⟨nq, rfl⟩
      go_wp2_with (at_builtin; refine wpList_app1 (by rfl) (.tmp 74) (.tmp 104) 131 (by rfl) w0.heap.size 3 (.int .i64 0) 8 Tryd.underlying131 (by kernel_rfl) rfl (by decide) _ i _ (by rfl) ((HO'.out.kept (grown_drewN (grown_refl wr none) nq) (by cases h : Value.ownBlock _ <;> simp)).alloc _) ⟨wr.heap.size, 0, none⟩ _ (by rfl) (cell_blk (alloc_at _ _) 0 rfl) rfl (by omega) (by have := HG'.out.size; rw [alloc_size]; show _ ≤ wr.heap.size + 1; omega) ?_; intro v' w3 ho3 hg3; have HO3 := Lib.hid ho3; have HG3 := Lib.hid (grown_own (grown_alloc (grown_drewN HG'.out nq) _) ((HO'.out.kept (grown_drewN (grown_refl wr none) nq) (by cases h : Value.ownBlock _ <;> simp)).alloc _) (Nat.le_refl _) hg3); clear ho3 hg3)
      refine NoPanic.normal ?_
      go_wp2
      go_roundw
      case rel =>
        refine ⟨i + 1, by omega, by go_num, HG3.out, ?_⟩
        rw [HW.out, intL_snoc]
        have := HO3.out
        rw [show ((x0 * 16777216 + x1 * 65536 + x2 * 256 + x3 : Nat) : Int) = (x0 : Int) * 16777216 + (x1 : Int) * 65536 + (x2 : Int) * 256 + (x3 : Int) by omega]
        exact this
      case measure => simp [intOf]; omega
    · obtain rfl : i = 16 := by omega
      go_wp2
      exact hQ.out _ _ _ _ _ _ _ _ _ _ _ _ _ _ _ _ _ _ _ _ _ _ _ _ _ _ _ _ _ _ _ _ _ _ _ _ _ _ _ _ _ _ _ _ HG'.out HO'.out
end Go.Proofs.YtgdnndapmcjoeaaDoor
namespace Go.Proofs.YtgdnndapmcjoeaaDoor
open Go.RowKit
set_option linter.unusedVariables false
set_option maxRecDepth 1000000 in
set_option maxHeartbeats 4000000 in
theorem ref_loop5 {c0 c1 c2 c3 c4 c5 c6 c7 c8 c10 c11 c13 c14 c15 c16 c17 c18 c19 c20 c21 c22 c23 c24 c25 c26 c27 c28 c29 c30 c31 c32 c33 c34 c35 c36 c37 c38 c39 c40 c41 c42 c43 c44 c45 c46 c47 c48 c49 c50 c51 c52 c53 c54 c55 c56 c57 c58 c59 c60 c61 c62 c63 c64 c65 c66 c67 c68 c69 c70 c71 c72 c73 c74 c75 c76 c77 c78 c79 c80 c81 c82 c83 c84 c85 c86 c87 c88 c89 c90 c91 c92 c93 c94 c95 c96 c97 c98 c99 c100 c101 c102 c103 c104 c105 c106 c107 c108 c109 c110 c111 c112 c113 c114 c115 c116 c117 c118 c119 c120 c121 c122 c123 c124 c125 c126 c127 c128 c129 c130 c131 c132 c133 c134 c135 c136 c137 c138 c139 c140 c141 c142 c143 c144 c145 c146 c147 c148 c149 c150 c151 c152 c153 c154 c155 c156 c157 c158 c159 c160 c161 c162 c163 c164 c165 c166 c167 c168 c169 c170 c171 c172 c173 c174 c175 c176 c177 c178 c179 c180 c181 c182 c183 c184 c185 c186 c187 c188 c189 c190 c191 c192 c193 c194 c195 c196 c197 c198 c199 c200 c201 c202 c203 c204 c205 c206 c207 c208 c209 c210 c211 c212 c213 c214 c215 c216 c217 c218 c219 c220 c221 c222 c223 c224 c225 c226 c227 c228 c229 c230 c231 c232 c233 c234 c235 c236 c237 c238 c239 c240 c241 c242 c243 c244 c245 c246 c247 c248 c249 c250 c251 c252 c253 c254 c255 c256 c257 c258 c259 c260 c261 c262 c263 c264 c265 c266 c267 c268 c269 c270 c271 c272 c273 c274 c275 c276 c277 c278 c279 c280 c281 c282 c283 c284 c285 c286 c287 c288 c289 c290 c291 c292 c293 c294 c295 c296 c297 c298 c299 c300 c301 c302 c303 c304 c305 c306 c307 c308 c309 c310 c311 c312 c313 c314 c315 c316 c317 c318 c319 c320 v : Value} (B : List Nat) (Q : Exit → Act → World → Prop) (w0 w : World) (hB : ∀ j, B.getD j 0 < 256) (hg : w0.grownBy w none) (ho : w.ownsRow w0.heap.size 3 1 v 16 (intL (Sha.words B 16)))
    (hQ : Hid (∀ (u9 u12 u13 u14 u15 u16 u106 u107 u108 u109 u110 u111 u112 u113 u114 u115 u116 u117 u118 u119 u120 u121 u122 u123 u124 u125 u126 u127 u128 u129 u130 u131 u132 u133 u134 u135 u136 u137 u138 u139 u140 u141 u142 u143 u144 u145 u146 u147 u148 u149 u150 u151 u152 u153 u154 : Value) (w' : World), w0.grownBy w' none → w'.ownsRow w0.heap.size 3 1 u9 64 (intL (Sha.sched B)) → Q (.exit 8) ⟨(c0 :: c1 :: c2 :: c3 :: c4 :: c5 :: c6 :: c7 :: c8 :: u9 :: c10 :: c11 :: u12 :: u13 :: u14 :: u15 :: u16 :: c17 :: c18 :: c19 :: c20 :: c21 :: c22 :: c23 :: c24 :: c25 :: c26 :: c27 :: c28 :: c29 :: c30 :: c31 :: c32 :: c33 :: c34 :: c35 :: c36 :: c37 :: c38 :: c39 :: c40 :: c41 :: c42 :: c43 :: c44 :: c45 :: c46 :: c47 :: c48 :: c49 :: c50 :: c51 :: c52 :: c53 :: c54 :: c55 :: c56 :: c57 :: c58 :: c59 :: c60 :: c61 :: c62 :: c63 :: c64 :: c65 :: c66 :: c67 :: c68 :: c69 :: c70 :: c71 :: c72 :: c73 :: c74 :: c75 :: c76 :: c77 :: c78 :: c79 :: c80 :: c81 :: c82 :: c83 :: c84 :: c85 :: c86 :: c87 :: c88 :: c89 :: c90 :: c91 :: c92 :: c93 :: c94 :: c95 :: c96 :: c97 :: c98 :: c99 :: c100 :: c101 :: c102 :: c103 :: c104 :: c105 :: u106 :: u107 :: u108 :: u109 :: u110 :: u111 :: u112 :: u113 :: u114 :: u115 :: u116 :: u117 :: u118 :: u119 :: u120 :: u121 :: u122 :: u123 :: u124 :: u125 :: u126 :: u127 :: u128 :: u129 :: u130 :: u131 :: u132 :: u133 :: u134 :: u135 :: u136 :: u137 :: u138 :: u139 :: u140 :: u141 :: u142 :: u143 :: u144 :: u145 :: u146 :: u147 :: u148 :: u149 :: u150 :: u151 :: u152 :: u153 :: u154 :: c155 :: c156 :: c157 :: c158 :: c159 :: c160 :: c161 :: c162 :: c163 :: c164 :: c165 :: c166 :: c167 :: c168 :: c169 :: c170 :: c171 :: c172 :: c173 :: c174 :: c175 :: c176 :: c177 :: c178 :: c179 :: c180 :: c181 :: c182 :: c183 :: c184 :: c185 :: c186 :: c187 :: c188 :: c189 :: c190 :: c191 :: c192 :: c193 :: c194 :: c195 :: c196 :: c197 :: c198 :: c199 :: c200 :: c201 :: c202 :: c203 :: c204 :: c205 :: c206 :: c207 :: c208 :: c209 :: c210 :: c211 :: c212 :: c213 :: c214 :: c215 :: c216 :: c217 :: c218 :: c219 :: c220 :: c221 :: c222 :: c223 :: c224 :: c225 :: c226 :: c227 :: c228 :: c229 :: c230 :: c231 :: c232 :: c233 :: c234 :: c235 :: c236 :: c237 :: c238 :: c239 :: c240 :: c241 :: c242 :: c243 :: c244 :: c245 :: c246 :: c247 :: c248 :: c249 :: c250 :: c251 :: c252 :: c253 :: c254 :: c255 :: c256 :: c257 :: c258 :: c259 :: c260 :: c261 :: c262 :: c263 :: c264 :: c265 :: c266 :: c267 :: c268 :: c269 :: c270 :: c271 :: c272 :: c273 :: c274 :: c275 :: c276 :: c277 :: c278 :: c279 :: c280 :: c281 :: c282 :: c283 :: c284 :: c285 :: c286 :: c287 :: c288 :: c289 :: c290 :: c291 :: c292 :: c293 :: c294 :: c295 :: c296 :: c297 :: c298 :: c299 :: c300 :: c301 :: c302 :: c303 :: c304 :: c305 :: c306 :: c307 :: c308 :: c309 :: c310 :: c311 :: c312 :: c313 :: c314 :: c315 :: c316 :: c317 :: c318 :: c319 :: c320 :: []).toArray, []⟩ w')) :
    Code.wp Tryd.prog (Code.loop (refLoop 4)) Q ⟨(c0 :: c1 :: c2 :: c3 :: c4 :: c5 :: c6 :: c7 :: c8 :: v :: c10 :: c11 :: (.int .i64 16) :: c13 :: c14 :: c15 :: c16 :: c17 :: c18 :: c19 :: c20 :: c21 :: c22 :: c23 :: c24 :: c25 :: c26 :: c27 :: c28 :: c29 :: c30 :: c31 :: c32 :: c33 :: c34 :: c35 :: c36 :: c37 :: c38 :: c39 :: c40 :: c41 :: c42 :: c43 :: c44 :: c45 :: c46 :: c47 :: c48 :: c49 :: c50 :: c51 :: c52 :: c53 :: c54 :: c55 :: c56 :: c57 :: c58 :: c59 :: c60 :: c61 :: c62 :: c63 :: c64 :: c65 :: c66 :: c67 :: c68 :: c69 :: c70 :: c71 :: c72 :: c73 :: c74 :: c75 :: c76 :: c77 :: c78 :: c79 :: c80 :: c81 :: c82 :: c83 :: c84 :: c85 :: c86 :: c87 :: c88 :: c89 :: c90 :: c91 :: c92 :: c93 :: c94 :: c95 :: c96 :: c97 :: c98 :: c99 :: c100 :: c101 :: c102 :: c103 :: c104 :: c105 :: c106 :: c107 :: c108 :: c109 :: c110 :: c111 :: c112 :: c113 :: c114 :: c115 :: c116 :: c117 :: c118 :: c119 :: c120 :: c121 :: c122 :: c123 :: c124 :: c125 :: c126 :: c127 :: c128 :: c129 :: c130 :: c131 :: c132 :: c133 :: c134 :: c135 :: c136 :: c137 :: c138 :: c139 :: c140 :: c141 :: c142 :: c143 :: c144 :: c145 :: c146 :: c147 :: c148 :: c149 :: c150 :: c151 :: c152 :: c153 :: c154 :: c155 :: c156 :: c157 :: c158 :: c159 :: c160 :: c161 :: c162 :: c163 :: c164 :: c165 :: c166 :: c167 :: c168 :: c169 :: c170 :: c171 :: c172 :: c173 :: c174 :: c175 :: c176 :: c177 :: c178 :: c179 :: c180 :: c181 :: c182 :: c183 :: c184 :: c185 :: c186 :: c187 :: c188 :: c189 :: c190 :: c191 :: c192 :: c193 :: c194 :: c195 :: c196 :: c197 :: c198 :: c199 :: c200 :: c201 :: c202 :: c203 :: c204 :: c205 :: c206 :: c207 :: c208 :: c209 :: c210 :: c211 :: c212 :: c213 :: c214 :: c215 :: c216 :: c217 :: c218 :: c219 :: c220 :: c221 :: c222 :: c223 :: c224 :: c225 :: c226 :: c227 :: c228 :: c229 :: c230 :: c231 :: c232 :: c233 :: c234 :: c235 :: c236 :: c237 :: c238 :: c239 :: c240 :: c241 :: c242 :: c243 :: c244 :: c245 :: c246 :: c247 :: c248 :: c249 :: c250 :: c251 :: c252 :: c253 :: c254 :: c255 :: c256 :: c257 :: c258 :: c259 :: c260 :: c261 :: c262 :: c263 :: c264 :: c265 :: c266 :: c267 :: c268 :: c269 :: c270 :: c271 :: c272 :: c273 :: c274 :: c275 :: c276 :: c277 :: c278 :: c279 :: c280 :: c281 :: c282 :: c283 :: c284 :: c285 :: c286 :: c287 :: c288 :: c289 :: c290 :: c291 :: c292 :: c293 :: c294 :: c295 :: c296 :: c297 :: c298 :: c299 :: c300 :: c301 :: c302 :: c303 :: c304 :: c305 :: c306 :: c307 :: c308 :: c309 :: c310 :: c311 :: c312 :: c313 :: c314 :: c315 :: c316 :: c317 :: c318 :: c319 :: c320 :: []).toArray, []⟩ w := by
  conv => arg 2; arg 1; whnf
  have HG := Lib.hid hg
  have HO := Lib.hid ho
  have HX := Lib.hid (Sha.ext_lt (Sha.words B 16) (Sha.words_lt B hB 16))
  clear hg ho hB
  go_loopw [9, 12] (fun v vi wr => ∃ m : Nat, 16 ≤ m ∧ m ≤ 64 ∧ vi = .int .i64 m ∧ w0.grownBy wr none ∧ wr.ownsRow w0.heap.size 3 1 v m (intL (Sha.ext (Sha.words B 16) (m - 16)))) (fun _ vi _ => 64 - (intOf vi).toNat)
  case atStart => exact ⟨16, by omega, by omega, rfl, HG.out, HO.out⟩
  case round =>
    obtain ⟨m, hm1, hm2, rfl, hg, ho⟩ := hrel
    have hL : (Sha.ext (Sha.words B 16) (m - 16)).length = m := by rw [Sha.ext_len, Sha.words_len]; omega
    by_cases hlt : m < 64
    · obtain ⟨a, g, c, rfl, k1, k2, k3, k4⟩ := ownsRow_form ho
      obtain ⟨rfl, k5, k6⟩ := k3 (by omega)
      have cl : ∀ j, j < m → wr.cell? ⟨g, j, none⟩ = some (.int .i64 ((Sha.ext (Sha.words B 16) (m - 16)).getD j 0 : Nat)) := fun j hj => by
        rw [k4 j hj]; simp [intL, hL, hj]
      have HG' := Lib.hid hg
      have HO' := Lib.hid ho
      clear hg ho k2 k3 k4
      obtain ⟨x0, h0⟩ : ∃ x, x = (Sha.ext (Sha.words B 16) (m - 16)).getD (m - 16) 0 := ⟨_, rfl⟩
      obtain ⟨x1, h1⟩ : ∃ x, x = (Sha.ext (Sha.words B 16) (m - 16)).getD (m - 15) 0 := ⟨_, rfl⟩
      obtain ⟨x2, h2⟩ : ∃ x, x = (Sha.ext (Sha.words B 16) (m - 16)).getD (m - 7) 0 := ⟨_, rfl⟩
      obtain ⟨x3, h3⟩ : ∃ x, x = (Sha.ext (Sha.words B 16) (m - 16)).getD (m - 2) 0 := ⟨_, rfl⟩
      have l0 : x0 < 4294967296 := by rw [h0]; exact Sha.getD_lt (by decide) (HX.out _) _
      have l1 : x1 < 4294967296 := by rw [h1]; exact Sha.getD_lt (by decide) (HX.out _) _
      have l2 : x2 < 4294967296 := by rw [h2]; exact Sha.getD_lt (by decide) (HX.out _) _
      have l3 : x3 < 4294967296 := by rw [h3]; exact Sha.getD_lt (by decide) (HX.out _) _
      have g0 : wr.cell? ⟨g, m - 16, none⟩ = some (.int .i64 (x0 : Nat)) := by rw [h0]; exact cl _ (by omega)
      have g1 : wr.cell? ⟨g, m - 15, none⟩ = some (.int .i64 (x1 : Nat)) := by rw [h1]; exact cl _ (by omega)
      have g2 : wr.cell? ⟨g, m - 7, none⟩ = some (.int .i64 (x2 : Nat)) := by rw [h2]; exact cl _ (by omega)
      have g3 : wr.cell? ⟨g, m - 2, none⟩ = some (.int .i64 (x3 : Nat)) := by rw [h3]; exact cl _ (by omega)
      have HW : Hid (Sha.ext (Sha.words B 16) (m + 1 - 16) = Sha.ext (Sha.words B 16) (m - 16) ++ [(x0 + Sha.low x1 7 18 3 + x2 + Sha.low x3 17 19 10) % 4294967296]) := Lib.hid (by
        rw [show m + 1 - 16 = (m - 16) + 1 by omega]
        show _ ++ [Sha.nxt _] = _
        unfold Sha.nxt
        rw [hL, ← h0, ← h1, ← h2, ← h3]
        congr 2
        omega)
      have t1 := Sha.low_lt x1 7 18 3 l1
      have t2 := Sha.low_lt x3 17 19 10 l3
      clear h0 h1 h2 h3 cl hL
      go_wp2
      go_quiet (fail)
      go_wp2_with fail
      refine (turn_any x1 7 l1 (by omega) (by omega) _).mono ?_
      rintro e w' ⟨rfl, rfl⟩
      go_wp2_with fail
      refine (turn_any x1 18 l1 (by omega) (by omega) _).mono ?_
      rintro e w' ⟨rfl, rfl⟩
      go_wp2_with fail
      refine (turn_any x3 17 l3 (by omega) (by omega) _).mono ?_
      rintro e w' ⟨rfl, rfl⟩
      go_wp2_with fail
      refine (turn_any x3 19 l3 (by omega) (by omega) _).mono ?_
      rintro e w' ⟨rfl, rfl⟩
      go_wp2_with fail
      rw [i64_low x1 7 18 3 ((x1 : Int) / 8) l1 (by omega), i64_low x3 17 19 10 ((x3 : Int) / 1024) l3 (by omega)]
      obtain ⟨s, hs⟩ : ∃ s, s = Sha.low x1 7 18 3 := ⟨_, rfl⟩
      obtain ⟨t, ht⟩ : ∃ t, t = Sha.low x3 17 19 10 := ⟨_, rfl⟩
      rw [← hs, ← ht] at HW ⊢
      rw [← hs] at t1
      rw [← ht] at t2
      have HV : Hid (bits .and .i64 ((x0 : Int) + (s : Int) + (x2 : Int) + (t : Int)) 4294967295 = (((x0 + s + x2 + t) % 4294967296 : Nat) : Int)) := Lib.hid (by
        rw [← i64_mask (x0 + s + x2 + t) (by omega)]; congr 1)
      clear hs ht g1 g3 l1 l3
      refine wp_region_move_quiet_tail (fun w' => ∃ n, w' = wr.drewN n) 17 (.tmp 9) rfl rfl (by kernel_rfl) (by kernel_rfl) ⟨nq + 1, rfl⟩ ?_
      simp only [List.take_succ_cons, List.take_zero, List.drop_succ_cons, List.drop_zero]
      simp only [Act.put, List.setIfInBounds_toArray, List.set_cons_succ, List.set_cons_zero]
      repeat (first | go_big_quiet_step (fail) | quiet_step (fail))
      refine wpQuiet_nil ?_
      rintro _ ⟨nq2, rfl⟩
      rw [HV.out]
      go_wp2_with (at_builtin; refine wpList_app1 (by rfl) (.tmp 136) (.tmp 153) 131 (by rfl) w0.heap.size 3 (.int .i64 0) 8 Tryd.underlying131 (by kernel_rfl) rfl (by decide) _ m _ (by rfl) ((HO'.out.kept (grown_drewN (grown_refl wr none) nq2) (by cases h : Value.ownBlock _ <;> simp)).alloc _) ⟨wr.heap.size, 0, none⟩ _ (by rfl) (cell_blk (alloc_at _ _) 0 rfl) rfl (by omega) (by have := HG'.out.size; rw [alloc_size]; show _ ≤ wr.heap.size + 1; omega) ?_; intro v' w3 ho3 hg3; have HO3 := Lib.hid ho3; have HG3 := Lib.hid (grown_own (grown_alloc (grown_drewN HG'.out nq2) _) ((HO'.out.kept (grown_drewN (grown_refl wr none) nq2) (by cases h : Value.ownBlock _ <;> simp)).alloc _) (Nat.le_refl _) hg3); clear ho3 hg3)
      refine NoPanic.normal ?_
      go_wp2
      go_roundw
      case rel =>
        refine ⟨m + 1, by omega, by omega, by go_num, HG3.out, ?_⟩
        rw [HW.out, intL_snoc]
        exact HO3.out
      case measure => simp [intOf]; omega
    · obtain rfl : m = 64 := by omega
      have HG' := Lib.hid hg
      have HO' := Lib.hid ho
      clear hg ho
      go_wp2
      exact hQ.out _ _ _ _ _ _ _ _ _ _ _ _ _ _ _ _ _ _ _ _ _ _ _ _ _ _ _ _ _ _ _ _ _ _ _ _ _ _ _ _ _ _ _ _ _ _ _ _ _ _ _ _ _ _ _ _ HG'.out HO'.out
end Go.Proofs.YtgdnndapmcjoeaaDoor
