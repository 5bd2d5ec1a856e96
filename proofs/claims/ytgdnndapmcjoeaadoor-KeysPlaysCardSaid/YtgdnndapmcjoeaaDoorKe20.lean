import Derived.Test.YtgdnndapmcjoeaaDoorKe19
namespace Go.Proofs.YtgdnndapmcjoeaaDoor
open Go.RowKit
set_option linter.unusedVariables false
def outV (s : Sha.St) (n : Nat) : Array Value := bytesV (Sha.digN s n ++ List.replicate (32 - (Sha.digN s n).length) 0)
theorem outV_set (s : Sha.St) (n : Nat) (h : n < 32) : (outV s n).setIfInBounds n (.int .u8 (Sha.digB s n : Nat)) = outV s (n + 1) := by
  have := bytesV_set 32 (Sha.digN s n) (Sha.digB s n) (by rw [Sha.digN_len]; exact h)
  rw [Sha.digN_len] at this
  unfold outV
  rw [Sha.digN_len, this]
  rfl
theorem outV_at (s : Sha.St) (n : Nat) (h : n < 32) : (outV s n)[n]? = some (.int .u8 0) := by
  have := bytesV_zero 32 (Sha.digN s n) (by rw [Sha.digN_len]; exact h)
  rw [Sha.digN_len] at this
  unfold outV
  rw [Sha.digN_len]
  exact this
set_option maxRecDepth 1000000 in
set_option maxHeartbeats 2000000 in
theorem ref_loop9 {c0 c1 c2 c3 c4 c5 c6 c7 c8 c9 c10 c11 c12 c13 c14 c15 c16 c17 c18 c19 c20 c21 c22 c23 c28 c29 c30 c31 c32 c33 c34 c35 c36 c37 c38 c39 c40 c41 c42 c43 c44 c45 c46 c47 c48 c49 c50 c51 c52 c53 c54 c55 c56 c57 c58 c59 c60 c61 c62 c63 c64 c65 c66 c67 c68 c69 c70 c71 c72 c73 c74 c75 c76 c77 c78 c79 c80 c81 c82 c83 c84 c85 c86 c87 c88 c89 c90 c91 c92 c93 c94 c95 c96 c97 c98 c99 c100 c101 c102 c103 c104 c105 c106 c107 c108 c109 c110 c111 c112 c113 c114 c115 c116 c117 c118 c119 c120 c121 c122 c123 c124 c125 c126 c127 c128 c129 c130 c131 c132 c133 c134 c135 c136 c137 c138 c139 c140 c141 c142 c143 c144 c145 c146 c147 c148 c149 c150 c151 c152 c153 c154 c155 c156 c157 c158 c159 c160 c161 c162 c163 c164 c165 c166 c167 c168 c169 c170 c171 c172 c173 c174 c175 c176 c177 c178 c179 c180 c181 c182 c183 c184 c185 c186 c187 c188 c189 c190 c191 c192 c193 c194 c195 c196 c197 c198 c199 c200 c201 c202 c203 c204 c205 c206 c207 c208 c209 c210 c211 c212 c213 c214 c215 c216 c217 c218 c219 c220 c221 c222 c223 c224 c225 c226 c227 c228 c229 c230 c231 c232 c233 c234 c235 c236 c237 c238 c239 c240 c241 c242 c243 c244 c245 c246 c247 c248 c249 c250 c251 c252 c253 c254 c255 c256 c257 c258 c259 c260 c261 c262 c263 c264 c265 c266 c267 c268 c269 c270 c271 c272 c273 c274 c275 c276 c277 c278 c279 c280 c281 c282 c283 c284 c285 c286 c287 c288 c289 c290 c291 c292 c293 c294 c295 c296 c297 c298 c299 c300 c301 c302 c303 c304 c305 c306 c307 c308 c309 c310 c311 c312 c313 c314 c315 c316 c317 c318 c319 c320 : Value} {ob k x : Nat} (s : Sha.St) (Q : Exit → Act → World → Prop) (w : World) (hx : x = s.list.getD k 0) (hk : k < 8)
    (ho : w.heap[ob]? = some (.cells (outV s (4 * k)) 64 (0, 0)))
    (hQ : Hid (∀ (u27 u303 u304 u305 u306 u307 u308 u309 u310 u311 u312 u313 u314 u315 u316 u317 u318 : Value) (w' : World), w.grownBy w' (some ob) → w'.heap[ob]? = some (.cells (outV s (4 * k + 4)) 64 (0, 0)) → Q (.exit 16) ⟨(c0 :: c1 :: c2 :: c3 :: c4 :: c5 :: c6 :: c7 :: c8 :: c9 :: c10 :: c11 :: c12 :: c13 :: c14 :: c15 :: c16 :: c17 :: c18 :: c19 :: c20 :: c21 :: c22 :: c23 :: (.pointer (some ⟨ob, 0, none⟩)) :: (.int .i64 (k : Int)) :: (.int .i64 (x : Int)) :: u27 :: c28 :: c29 :: c30 :: c31 :: c32 :: c33 :: c34 :: c35 :: c36 :: c37 :: c38 :: c39 :: c40 :: c41 :: c42 :: c43 :: c44 :: c45 :: c46 :: c47 :: c48 :: c49 :: c50 :: c51 :: c52 :: c53 :: c54 :: c55 :: c56 :: c57 :: c58 :: c59 :: c60 :: c61 :: c62 :: c63 :: c64 :: c65 :: c66 :: c67 :: c68 :: c69 :: c70 :: c71 :: c72 :: c73 :: c74 :: c75 :: c76 :: c77 :: c78 :: c79 :: c80 :: c81 :: c82 :: c83 :: c84 :: c85 :: c86 :: c87 :: c88 :: c89 :: c90 :: c91 :: c92 :: c93 :: c94 :: c95 :: c96 :: c97 :: c98 :: c99 :: c100 :: c101 :: c102 :: c103 :: c104 :: c105 :: c106 :: c107 :: c108 :: c109 :: c110 :: c111 :: c112 :: c113 :: c114 :: c115 :: c116 :: c117 :: c118 :: c119 :: c120 :: c121 :: c122 :: c123 :: c124 :: c125 :: c126 :: c127 :: c128 :: c129 :: c130 :: c131 :: c132 :: c133 :: c134 :: c135 :: c136 :: c137 :: c138 :: c139 :: c140 :: c141 :: c142 :: c143 :: c144 :: c145 :: c146 :: c147 :: c148 :: c149 :: c150 :: c151 :: c152 :: c153 :: c154 :: c155 :: c156 :: c157 :: c158 :: c159 :: c160 :: c161 :: c162 :: c163 :: c164 :: c165 :: c166 :: c167 :: c168 :: c169 :: c170 :: c171 :: c172 :: c173 :: c174 :: c175 :: c176 :: c177 :: c178 :: c179 :: c180 :: c181 :: c182 :: c183 :: c184 :: c185 :: c186 :: c187 :: c188 :: c189 :: c190 :: c191 :: c192 :: c193 :: c194 :: c195 :: c196 :: c197 :: c198 :: c199 :: c200 :: c201 :: c202 :: c203 :: c204 :: c205 :: c206 :: c207 :: c208 :: c209 :: c210 :: c211 :: c212 :: c213 :: c214 :: c215 :: c216 :: c217 :: c218 :: c219 :: c220 :: c221 :: c222 :: c223 :: c224 :: c225 :: c226 :: c227 :: c228 :: c229 :: c230 :: c231 :: c232 :: c233 :: c234 :: c235 :: c236 :: c237 :: c238 :: c239 :: c240 :: c241 :: c242 :: c243 :: c244 :: c245 :: c246 :: c247 :: c248 :: c249 :: c250 :: c251 :: c252 :: c253 :: c254 :: c255 :: c256 :: c257 :: c258 :: c259 :: c260 :: c261 :: c262 :: c263 :: c264 :: c265 :: c266 :: c267 :: c268 :: c269 :: c270 :: c271 :: c272 :: c273 :: c274 :: c275 :: c276 :: c277 :: c278 :: c279 :: c280 :: c281 :: c282 :: c283 :: c284 :: c285 :: c286 :: c287 :: c288 :: c289 :: c290 :: c291 :: c292 :: c293 :: c294 :: c295 :: c296 :: c297 :: c298 :: c299 :: c300 :: c301 :: c302 :: u303 :: u304 :: u305 :: u306 :: u307 :: u308 :: u309 :: u310 :: u311 :: u312 :: u313 :: u314 :: u315 :: u316 :: u317 :: u318 :: c319 :: c320 :: []).toArray, []⟩ w')) :
    Code.wp Tryd.prog (Code.loop (refLoop 8)) Q ⟨(c0 :: c1 :: c2 :: c3 :: c4 :: c5 :: c6 :: c7 :: c8 :: c9 :: c10 :: c11 :: c12 :: c13 :: c14 :: c15 :: c16 :: c17 :: c18 :: c19 :: c20 :: c21 :: c22 :: c23 :: (.pointer (some ⟨ob, 0, none⟩)) :: (.int .i64 (k : Int)) :: (.int .i64 (x : Int)) :: (.int .i64 0) :: c28 :: c29 :: c30 :: c31 :: c32 :: c33 :: c34 :: c35 :: c36 :: c37 :: c38 :: c39 :: c40 :: c41 :: c42 :: c43 :: c44 :: c45 :: c46 :: c47 :: c48 :: c49 :: c50 :: c51 :: c52 :: c53 :: c54 :: c55 :: c56 :: c57 :: c58 :: c59 :: c60 :: c61 :: c62 :: c63 :: c64 :: c65 :: c66 :: c67 :: c68 :: c69 :: c70 :: c71 :: c72 :: c73 :: c74 :: c75 :: c76 :: c77 :: c78 :: c79 :: c80 :: c81 :: c82 :: c83 :: c84 :: c85 :: c86 :: c87 :: c88 :: c89 :: c90 :: c91 :: c92 :: c93 :: c94 :: c95 :: c96 :: c97 :: c98 :: c99 :: c100 :: c101 :: c102 :: c103 :: c104 :: c105 :: c106 :: c107 :: c108 :: c109 :: c110 :: c111 :: c112 :: c113 :: c114 :: c115 :: c116 :: c117 :: c118 :: c119 :: c120 :: c121 :: c122 :: c123 :: c124 :: c125 :: c126 :: c127 :: c128 :: c129 :: c130 :: c131 :: c132 :: c133 :: c134 :: c135 :: c136 :: c137 :: c138 :: c139 :: c140 :: c141 :: c142 :: c143 :: c144 :: c145 :: c146 :: c147 :: c148 :: c149 :: c150 :: c151 :: c152 :: c153 :: c154 :: c155 :: c156 :: c157 :: c158 :: c159 :: c160 :: c161 :: c162 :: c163 :: c164 :: c165 :: c166 :: c167 :: c168 :: c169 :: c170 :: c171 :: c172 :: c173 :: c174 :: c175 :: c176 :: c177 :: c178 :: c179 :: c180 :: c181 :: c182 :: c183 :: c184 :: c185 :: c186 :: c187 :: c188 :: c189 :: c190 :: c191 :: c192 :: c193 :: c194 :: c195 :: c196 :: c197 :: c198 :: c199 :: c200 :: c201 :: c202 :: c203 :: c204 :: c205 :: c206 :: c207 :: c208 :: c209 :: c210 :: c211 :: c212 :: c213 :: c214 :: c215 :: c216 :: c217 :: c218 :: c219 :: c220 :: c221 :: c222 :: c223 :: c224 :: c225 :: c226 :: c227 :: c228 :: c229 :: c230 :: c231 :: c232 :: c233 :: c234 :: c235 :: c236 :: c237 :: c238 :: c239 :: c240 :: c241 :: c242 :: c243 :: c244 :: c245 :: c246 :: c247 :: c248 :: c249 :: c250 :: c251 :: c252 :: c253 :: c254 :: c255 :: c256 :: c257 :: c258 :: c259 :: c260 :: c261 :: c262 :: c263 :: c264 :: c265 :: c266 :: c267 :: c268 :: c269 :: c270 :: c271 :: c272 :: c273 :: c274 :: c275 :: c276 :: c277 :: c278 :: c279 :: c280 :: c281 :: c282 :: c283 :: c284 :: c285 :: c286 :: c287 :: c288 :: c289 :: c290 :: c291 :: c292 :: c293 :: c294 :: c295 :: c296 :: c297 :: c298 :: c299 :: c300 :: c301 :: c302 :: c303 :: c304 :: c305 :: c306 :: c307 :: c308 :: c309 :: c310 :: c311 :: c312 :: c313 :: c314 :: c315 :: c316 :: c317 :: c318 :: c319 :: c320 :: []).toArray, []⟩ w := by
  conv => arg 2; arg 1; whnf
  have HO := Lib.hid ho
  have HX := Lib.hid hx
  clear ho hx
  go_loopw [27] (fun vi wr => ∃ j : Nat, j ≤ 4 ∧ vi = .int .i64 j ∧ w.grownBy wr (some ob) ∧ wr.heap[ob]? = some (.cells (outV s (4 * k + j)) 64 (0, 0))) (fun vi _ => 4 - (intOf vi).toNat)
  case atStart => exact ⟨0, Nat.zero_le _, rfl, grown_refl _ _, HO.out⟩
  case round =>
    obtain ⟨j, hj, rfl, hg, ho⟩ := hrel
    have HG := Lib.hid hg
    have HB := Lib.hid ho
    by_cases hlt : j < 4
    · have f1 := cell_blk ho (4 * k + j) (outV_at s (4 * k + j) (by omega))
      have f2 := free_blk ho (4 * k + j)
      have HD : Hid (((x : Int) / 2 ^ (24 - 8 * j)) % 256 = ((Sha.digB s (4 * k + j) : Nat) : Int)) := Lib.hid (by
        unfold Sha.digB
        rw [show (4 * k + j) / 4 = k by omega, show (4 * k + j) % 4 = j by omega, ← HX.out]
        simp)
      clear hg ho
      go_wp2
      go_roundw
      case rel =>
        refine ⟨j + 1, by omega, by go_num, grown_set HG.out (.inr rfl) _, ?_⟩
        rw [HD.out, show 4 * k + (j + 1) = 4 * k + j + 1 by omega, ← outV_set s _ (by omega)]
        exact setCell_heap HB.out _
      case measure => simp [intOf]; omega
    · obtain rfl : j = 4 := by omega
      clear hg ho
      go_wp2
      exact hQ.out _ _ _ _ _ _ _ _ _ _ _ _ _ _ _ _ _ _ HG.out HB.out
set_option maxRecDepth 1000000 in
set_option maxHeartbeats 2000000 in
theorem ref_loop8 {c0 c1 c2 c3 c4 c5 c6 c8 c9 c10 c11 c12 c13 c14 c15 c16 c17 c18 c19 c20 c21 c22 c23 c25 c26 c27 c28 c29 c30 c31 c32 c33 c34 c35 c36 c37 c38 c39 c40 c41 c42 c43 c44 c45 c46 c47 c48 c49 c50 c51 c52 c53 c54 c55 c56 c57 c58 c59 c60 c61 c62 c63 c64 c65 c66 c67 c68 c69 c70 c71 c72 c73 c74 c75 c76 c77 c78 c79 c80 c81 c82 c83 c84 c85 c86 c87 c88 c89 c90 c91 c92 c93 c94 c95 c96 c97 c98 c99 c100 c101 c102 c103 c104 c105 c106 c107 c108 c109 c110 c111 c112 c113 c114 c115 c116 c117 c118 c119 c120 c121 c122 c123 c124 c125 c126 c127 c128 c129 c130 c131 c132 c133 c134 c135 c136 c137 c138 c139 c140 c141 c142 c143 c144 c145 c146 c147 c148 c149 c150 c151 c152 c153 c154 c155 c156 c157 c158 c159 c160 c161 c162 c163 c164 c165 c166 c167 c168 c169 c170 c171 c172 c173 c174 c175 c176 c177 c178 c179 c180 c181 c182 c183 c184 c185 c186 c187 c188 c189 c190 c191 c192 c193 c194 c195 c196 c197 c198 c199 c200 c201 c202 c203 c204 c205 c206 c207 c208 c209 c210 c211 c212 c213 c214 c215 c216 c217 c218 c219 c220 c221 c222 c223 c224 c225 c226 c227 c228 c229 c230 c231 c232 c233 c234 c235 c236 c237 c238 c239 c240 c241 c242 c243 c244 c245 c246 c247 c248 c249 c250 c251 c252 c253 c254 c255 c256 c257 c258 c259 c260 c261 c262 c263 c264 c265 c266 c267 c268 c269 c270 c271 c272 c273 c274 c275 c276 c277 c278 c279 c280 c281 c282 c283 c284 c285 c286 c287 c288 c289 c290 c291 c292 c293 c294 c295 c299 c300 c301 c302 c303 c304 c305 c306 c307 c308 c309 c310 c311 c312 c313 c314 c315 c316 c317 c318 c319 c320 : Value} {ob hb : Nat} (s : Sha.St) (Q : Exit → Act → World → Prop) (w : World) (hne : hb ≠ ob) (hbl : hb < w.heap.size)
    (hh : w.heap[hb]? = some (.cells (intL s.list).toArray 3 (0, 0))) (ho : w.heap[ob]? = some (.cells (outV s 0) 64 (0, 0)))
    (hQ : Hid (∀ (u25 u26 u27 u298 u299 u300 u301 u302 u303 u304 u305 u306 u307 u308 u309 u310 u311 u312 u313 u314 u315 u316 u317 u318 u319 : Value) (w' : World), w.grownBy w' (some ob) → w'.heap[ob]? = some (.cells (bytesV (Sha.dig s)) 64 (0, 0)) → Q (.exit 14) ⟨(c0 :: c1 :: c2 :: c3 :: c4 :: c5 :: c6 :: (.slice (some ⟨hb, 0, none⟩) 8 8) :: c8 :: c9 :: c10 :: c11 :: c12 :: c13 :: c14 :: c15 :: c16 :: c17 :: c18 :: c19 :: c20 :: c21 :: c22 :: c23 :: (.pointer (some ⟨ob, 0, none⟩)) :: u25 :: u26 :: u27 :: c28 :: c29 :: c30 :: c31 :: c32 :: c33 :: c34 :: c35 :: c36 :: c37 :: c38 :: c39 :: c40 :: c41 :: c42 :: c43 :: c44 :: c45 :: c46 :: c47 :: c48 :: c49 :: c50 :: c51 :: c52 :: c53 :: c54 :: c55 :: c56 :: c57 :: c58 :: c59 :: c60 :: c61 :: c62 :: c63 :: c64 :: c65 :: c66 :: c67 :: c68 :: c69 :: c70 :: c71 :: c72 :: c73 :: c74 :: c75 :: c76 :: c77 :: c78 :: c79 :: c80 :: c81 :: c82 :: c83 :: c84 :: c85 :: c86 :: c87 :: c88 :: c89 :: c90 :: c91 :: c92 :: c93 :: c94 :: c95 :: c96 :: c97 :: c98 :: c99 :: c100 :: c101 :: c102 :: c103 :: c104 :: c105 :: c106 :: c107 :: c108 :: c109 :: c110 :: c111 :: c112 :: c113 :: c114 :: c115 :: c116 :: c117 :: c118 :: c119 :: c120 :: c121 :: c122 :: c123 :: c124 :: c125 :: c126 :: c127 :: c128 :: c129 :: c130 :: c131 :: c132 :: c133 :: c134 :: c135 :: c136 :: c137 :: c138 :: c139 :: c140 :: c141 :: c142 :: c143 :: c144 :: c145 :: c146 :: c147 :: c148 :: c149 :: c150 :: c151 :: c152 :: c153 :: c154 :: c155 :: c156 :: c157 :: c158 :: c159 :: c160 :: c161 :: c162 :: c163 :: c164 :: c165 :: c166 :: c167 :: c168 :: c169 :: c170 :: c171 :: c172 :: c173 :: c174 :: c175 :: c176 :: c177 :: c178 :: c179 :: c180 :: c181 :: c182 :: c183 :: c184 :: c185 :: c186 :: c187 :: c188 :: c189 :: c190 :: c191 :: c192 :: c193 :: c194 :: c195 :: c196 :: c197 :: c198 :: c199 :: c200 :: c201 :: c202 :: c203 :: c204 :: c205 :: c206 :: c207 :: c208 :: c209 :: c210 :: c211 :: c212 :: c213 :: c214 :: c215 :: c216 :: c217 :: c218 :: c219 :: c220 :: c221 :: c222 :: c223 :: c224 :: c225 :: c226 :: c227 :: c228 :: c229 :: c230 :: c231 :: c232 :: c233 :: c234 :: c235 :: c236 :: c237 :: c238 :: c239 :: c240 :: c241 :: c242 :: c243 :: c244 :: c245 :: c246 :: c247 :: c248 :: c249 :: c250 :: c251 :: c252 :: c253 :: c254 :: c255 :: c256 :: c257 :: c258 :: c259 :: c260 :: c261 :: c262 :: c263 :: c264 :: c265 :: c266 :: c267 :: c268 :: c269 :: c270 :: c271 :: c272 :: c273 :: c274 :: c275 :: c276 :: c277 :: c278 :: c279 :: c280 :: c281 :: c282 :: c283 :: c284 :: c285 :: c286 :: c287 :: c288 :: c289 :: c290 :: c291 :: c292 :: c293 :: c294 :: c295 :: (.slice (some ⟨hb, 0, none⟩) 8 8) :: (.int .i64 8) :: u298 :: u299 :: u300 :: u301 :: u302 :: u303 :: u304 :: u305 :: u306 :: u307 :: u308 :: u309 :: u310 :: u311 :: u312 :: u313 :: u314 :: u315 :: u316 :: u317 :: u318 :: u319 :: c320 :: []).toArray, []⟩ w')) :
    Code.wp Tryd.prog (Code.loop (refLoop 7)) Q ⟨(c0 :: c1 :: c2 :: c3 :: c4 :: c5 :: c6 :: (.slice (some ⟨hb, 0, none⟩) 8 8) :: c8 :: c9 :: c10 :: c11 :: c12 :: c13 :: c14 :: c15 :: c16 :: c17 :: c18 :: c19 :: c20 :: c21 :: c22 :: c23 :: (.pointer (some ⟨ob, 0, none⟩)) :: c25 :: c26 :: c27 :: c28 :: c29 :: c30 :: c31 :: c32 :: c33 :: c34 :: c35 :: c36 :: c37 :: c38 :: c39 :: c40 :: c41 :: c42 :: c43 :: c44 :: c45 :: c46 :: c47 :: c48 :: c49 :: c50 :: c51 :: c52 :: c53 :: c54 :: c55 :: c56 :: c57 :: c58 :: c59 :: c60 :: c61 :: c62 :: c63 :: c64 :: c65 :: c66 :: c67 :: c68 :: c69 :: c70 :: c71 :: c72 :: c73 :: c74 :: c75 :: c76 :: c77 :: c78 :: c79 :: c80 :: c81 :: c82 :: c83 :: c84 :: c85 :: c86 :: c87 :: c88 :: c89 :: c90 :: c91 :: c92 :: c93 :: c94 :: c95 :: c96 :: c97 :: c98 :: c99 :: c100 :: c101 :: c102 :: c103 :: c104 :: c105 :: c106 :: c107 :: c108 :: c109 :: c110 :: c111 :: c112 :: c113 :: c114 :: c115 :: c116 :: c117 :: c118 :: c119 :: c120 :: c121 :: c122 :: c123 :: c124 :: c125 :: c126 :: c127 :: c128 :: c129 :: c130 :: c131 :: c132 :: c133 :: c134 :: c135 :: c136 :: c137 :: c138 :: c139 :: c140 :: c141 :: c142 :: c143 :: c144 :: c145 :: c146 :: c147 :: c148 :: c149 :: c150 :: c151 :: c152 :: c153 :: c154 :: c155 :: c156 :: c157 :: c158 :: c159 :: c160 :: c161 :: c162 :: c163 :: c164 :: c165 :: c166 :: c167 :: c168 :: c169 :: c170 :: c171 :: c172 :: c173 :: c174 :: c175 :: c176 :: c177 :: c178 :: c179 :: c180 :: c181 :: c182 :: c183 :: c184 :: c185 :: c186 :: c187 :: c188 :: c189 :: c190 :: c191 :: c192 :: c193 :: c194 :: c195 :: c196 :: c197 :: c198 :: c199 :: c200 :: c201 :: c202 :: c203 :: c204 :: c205 :: c206 :: c207 :: c208 :: c209 :: c210 :: c211 :: c212 :: c213 :: c214 :: c215 :: c216 :: c217 :: c218 :: c219 :: c220 :: c221 :: c222 :: c223 :: c224 :: c225 :: c226 :: c227 :: c228 :: c229 :: c230 :: c231 :: c232 :: c233 :: c234 :: c235 :: c236 :: c237 :: c238 :: c239 :: c240 :: c241 :: c242 :: c243 :: c244 :: c245 :: c246 :: c247 :: c248 :: c249 :: c250 :: c251 :: c252 :: c253 :: c254 :: c255 :: c256 :: c257 :: c258 :: c259 :: c260 :: c261 :: c262 :: c263 :: c264 :: c265 :: c266 :: c267 :: c268 :: c269 :: c270 :: c271 :: c272 :: c273 :: c274 :: c275 :: c276 :: c277 :: c278 :: c279 :: c280 :: c281 :: c282 :: c283 :: c284 :: c285 :: c286 :: c287 :: c288 :: c289 :: c290 :: c291 :: c292 :: c293 :: c294 :: c295 :: (.slice (some ⟨hb, 0, none⟩) 8 8) :: (.int .i64 8) :: (.int .i64 0) :: c299 :: c300 :: c301 :: c302 :: c303 :: c304 :: c305 :: c306 :: c307 :: c308 :: c309 :: c310 :: c311 :: c312 :: c313 :: c314 :: c315 :: c316 :: c317 :: c318 :: c319 :: c320 :: []).toArray, []⟩ w := by
  conv => arg 2; arg 1; whnf
  have HO := Lib.hid ho
  have HH := Lib.hid hh
  clear ho hh
  go_loopw [298] (fun vi wr => ∃ k : Nat, k ≤ 8 ∧ vi = .int .i64 k ∧ w.grownBy wr (some ob) ∧ wr.heap[ob]? = some (.cells (outV s (4 * k)) 64 (0, 0))) (fun vi _ => 8 - (intOf vi).toNat)
  case atStart => exact ⟨0, Nat.zero_le _, rfl, grown_refl _ _, HO.out⟩
  case round =>
    obtain ⟨k, hk, rfl, hg, ho⟩ := hrel
    have HG := Lib.hid hg
    have HB := Lib.hid ho
    by_cases hlt : k < 8
    · obtain ⟨x, hx⟩ : ∃ x, x = s.list.getD k 0 := ⟨_, rfl⟩
      have f1 : wr.cell? ⟨hb, k, none⟩ = some (.int .i64 (x : Int)) := by
        rw [World.cell?_of_block (hg.block hb hbl (by simp; exact hne))]
        refine cell_blk HH.out k ?_
        have : s.list.length = 8 := rfl
        simp [intL, hx, this, hlt]
      have HX := Lib.hid hx
      clear hx hg ho
      go_wp2_with (refine ref_loop9 s _ wr HX.out hlt HB.out (Lib.hid ?_); intros; rename_i w2 hg2 ho2; have HG2 := Lib.hid hg2; have HO2 := Lib.hid ho2; clear hg2 ho2)
      go_goals
      go_roundw
      case rel => exact ⟨k + 1, by omega, by go_num, grown_trans HG.out HG2.out, by rw [show 4 * (k + 1) = 4 * k + 4 by omega]; exact HO2.out⟩
      case measure => simp [intOf]; omega
    · obtain rfl : k = 8 := by omega
      clear hg ho
      go_wp2
      exact hQ.out _ _ _ _ _ _ _ _ _ _ _ _ _ _ _ _ _ _ _ _ _ _ _ _ _ _ HG.out (by
        have := HB.out
        unfold outV at this
        rw [Sha.digN_len] at this
        simpa [Sha.dig] using this)
end Go.Proofs.YtgdnndapmcjoeaaDoor
namespace Go.Proofs.YtgdnndapmcjoeaaDoor
open Go.RowKit
set_option linter.unusedVariables false
/-- 'append(s, x...)', x a row of one-cell elements that is somewhere. -/
theorem wpList_appL {P : Program} {w : World} {ops : Array Oper} {rest : List Oper} {o : Oper} {a : Act} {Q : Exit → Act → World → Prop} (hgd : o.guard = none) (s x : Operand) (t : TypeId)
    (ho : o.op = .call { callee := .builtin .append, args := #[s, x], argTypes := #[t, t] })
    (base : Nat) (e : TypeId) (z : Value) (bytes : Nat) (ht : P.underlying t = some (.slice e)) (hi : (P.info? e).map (fun i => (i.zero, i.size, i.bytes)) = some (some z, 1, bytes)) (hzs : z.cells.size = 1) (hby : bytes ≤ 64)
    (v : Value) (n : Nat) (xs : List Value) (hs : a.eval s = v) (hown : w.ownsRow base e 1 v n xs)
    (ad : Addr) (m c : Nat) (us : List Value) (hx : a.eval x = .slice (some ad) m c) (hl : us.length = m) (hu : ∀ j u, us[j]? = some u → w.cell? (ad.add j) = some u) (h1 : ∀ u ∈ us, u.oneCell' = true)
    (h63 : n + m ≤ 1099511627776) (hbase : base ≤ w.heap.size)
    (h : ∀ v' w', w'.ownsRow base e 1 v' (n + m) (xs ++ us) → w.grownBy w' v.ownBlock → wpList P ops Q rest (a.put o.dst v') w') : wpList P ops Q (o :: rest) a w := by
  obtain ⟨i, h1', h2', h3', h4'⟩ := info_parts hi
  refine wpList_append_own w hgd s x t ho base e i z 1 bytes ht h1' h2' h3' h4' hzs (by decide) v n xs hs hown ad m c us hx (by omega) hu h1 ?_ ?_ hbase (fun v' w' a1 a2 _ => h v' w' a1 a2)
  · unfold maxLen; omega
  · exact Nat.le_trans (Nat.mul_le_mul_left _ hby) (by omega)
theorem addr_add (g j : Nat) : (⟨g, 0, none⟩ : Addr).add j = ⟨g, j, none⟩ := by
  unfold Addr.add
  split <;> simp_all
theorem intL_one (l : List Nat) : ∀ u ∈ intL l, u.oneCell' = true := by
  intro u hu
  simp only [intL, List.mem_map] at hu
  obtain ⟨x, _, rfl⟩ := hu
  rfl
set_option maxRecDepth 1000000 in
set_option maxHeartbeats 8000000 in
theorem ref_loop3 {c0 c1 c2 c4 c5 c9 c10 c11 c12 c13 c14 c15 c16 c17 c18 c19 c20 c21 c22 c23 c24 c25 c26 c27 c28 c29 c30 c31 c32 c33 c34 c35 c36 c37 c38 c39 c40 c41 c42 c43 c44 c45 c46 c47 c48 c49 c50 c51 c52 c53 c54 c55 c56 c57 c58 c59 c60 c61 c62 c63 c64 c65 c66 c67 c68 c69 c70 c71 c72 c73 c74 c75 c76 c77 c78 c79 c80 c81 c82 c83 c84 c85 c86 c87 c88 c89 c90 c91 c92 c93 c94 c95 c96 c97 c98 c99 c100 c101 c102 c103 c104 c105 c106 c107 c108 c109 c110 c111 c112 c113 c114 c115 c116 c117 c118 c119 c120 c121 c122 c123 c124 c125 c126 c127 c128 c129 c130 c131 c132 c133 c134 c135 c136 c137 c138 c139 c140 c141 c142 c143 c144 c145 c146 c147 c148 c149 c150 c151 c152 c153 c154 c155 c156 c157 c158 c159 c160 c161 c162 c163 c164 c165 c166 c167 c168 c169 c170 c171 c172 c173 c174 c175 c176 c177 c178 c179 c180 c181 c182 c183 c184 c185 c186 c187 c188 c189 c190 c191 c192 c193 c194 c195 c196 c197 c198 c199 c200 c201 c202 c203 c204 c205 c206 c207 c208 c209 c210 c211 c212 c213 c214 c215 c216 c217 c218 c219 c220 c221 c222 c223 c224 c225 c226 c227 c228 c229 c230 c231 c232 c233 c234 c235 c236 c237 c238 c239 c240 c241 c242 c243 c244 c245 c246 c247 c248 c249 c250 c251 c252 c253 c254 c255 c256 c257 c258 c259 c260 c261 c262 c263 c264 c265 c266 c267 c268 c269 c270 c271 c272 c273 c274 c275 c276 c277 c278 c279 c280 c281 c282 c283 c284 c285 c286 c287 c288 c289 c290 c291 c292 c293 c294 c295 c296 c297 c298 c299 c300 c301 c302 c303 c304 c305 c306 c307 c308 c309 c310 c311 c312 c313 c314 c315 c316 c317 c318 c319 c320 : Value} {g n cap kg hb : Nat} (P : List Nat) (B : Nat) (Q : Exit → Act → World → Prop) (w : World) (hP : ∀ x ∈ P, x < 256) (hn : P.length = n) (hB : n = 64 * B) (hc : n ≤ cap) (hn2 : n < 1099511627776)
    (hgl : g < w.heap.size) (hkl : kg < w.heap.size) (hhl : hb < w.heap.size) (hgh : g ≠ hb) (hkh : kg ≠ hb)
    (hall : ∀ j, j < n → w.cell? ⟨g, j, none⟩ = some (.int .u8 (P.getD j 0 : Nat))) (hk : ∀ j, j < 64 → w.cell? ⟨kg, j, none⟩ = some (.int .i64 (Sha.ks.getD j 0 : Nat)))
    (hh : w.heap[hb]? = some (.cells (intL Sha.first.list).toArray 3 (0, 0)))
    (hQ : Hid (∀ (u8 u9 u10 u11 u12 u13 u14 u15 u16 u17 u18 u19 u20 u21 u22 u23 u59 u60 u61 u62 u63 u64 u65 u66 u67 u68 u69 u70 u71 u72 u73 u74 u75 u76 u77 u78 u79 u80 u81 u82 u83 u84 u85 u86 u87 u88 u89 u90 u91 u92 u93 u94 u95 u96 u97 u98 u99 u100 u101 u102 u103 u104 u105 u106 u107 u108 u109 u110 u111 u112 u113 u114 u115 u116 u117 u118 u119 u120 u121 u122 u123 u124 u125 u126 u127 u128 u129 u130 u131 u132 u133 u134 u135 u136 u137 u138 u139 u140 u141 u142 u143 u144 u145 u146 u147 u148 u149 u150 u151 u152 u153 u154 u155 u156 u157 u158 u159 u160 u161 u162 u163 u164 u165 u166 u167 u168 u169 u170 u171 u172 u173 u174 u175 u176 u177 u178 u179 u180 u181 u182 u183 u184 u185 u186 u187 u188 u189 u190 u191 u192 u193 u194 u195 u196 u197 u198 u199 u200 u201 u202 u203 u204 u205 u206 u207 u208 u209 u210 u211 u212 u213 u214 u215 u216 u217 u218 u219 u220 u221 u222 u223 u224 u225 u226 u227 u228 u229 u230 u231 u232 u233 u234 u235 u236 u237 u238 u239 u240 u241 u242 u243 u244 u245 u246 u247 u248 u249 u250 u251 u252 u253 u254 u255 u256 u257 u258 u259 u260 u261 u262 u263 u264 u265 u266 u267 u268 u269 u270 u271 u272 u273 u274 u275 u276 u277 u278 u279 u280 u281 u282 u283 u284 u285 u286 u287 u288 u289 u290 u291 u292 u293 u294 : Value) (w' : World), w.grownBy w' (some hb) → w'.heap[hb]? = some (.cells (intL (Sha.chainW P B).list).toArray 3 (0, 0)) → Q (.exit 4) ⟨(c0 :: c1 :: c2 :: (.slice (some ⟨g, 0, none⟩) n cap) :: c4 :: c5 :: (.slice (some ⟨kg, 0, none⟩) 64 64) :: (.slice (some ⟨hb, 0, none⟩) 8 8) :: u8 :: u9 :: u10 :: u11 :: u12 :: u13 :: u14 :: u15 :: u16 :: u17 :: u18 :: u19 :: u20 :: u21 :: u22 :: u23 :: c24 :: c25 :: c26 :: c27 :: c28 :: c29 :: c30 :: c31 :: c32 :: c33 :: c34 :: c35 :: c36 :: c37 :: c38 :: c39 :: c40 :: c41 :: c42 :: c43 :: c44 :: c45 :: c46 :: c47 :: c48 :: c49 :: c50 :: c51 :: c52 :: c53 :: c54 :: c55 :: c56 :: c57 :: c58 :: u59 :: u60 :: u61 :: u62 :: u63 :: u64 :: u65 :: u66 :: u67 :: u68 :: u69 :: u70 :: u71 :: u72 :: u73 :: u74 :: u75 :: u76 :: u77 :: u78 :: u79 :: u80 :: u81 :: u82 :: u83 :: u84 :: u85 :: u86 :: u87 :: u88 :: u89 :: u90 :: u91 :: u92 :: u93 :: u94 :: u95 :: u96 :: u97 :: u98 :: u99 :: u100 :: u101 :: u102 :: u103 :: u104 :: u105 :: u106 :: u107 :: u108 :: u109 :: u110 :: u111 :: u112 :: u113 :: u114 :: u115 :: u116 :: u117 :: u118 :: u119 :: u120 :: u121 :: u122 :: u123 :: u124 :: u125 :: u126 :: u127 :: u128 :: u129 :: u130 :: u131 :: u132 :: u133 :: u134 :: u135 :: u136 :: u137 :: u138 :: u139 :: u140 :: u141 :: u142 :: u143 :: u144 :: u145 :: u146 :: u147 :: u148 :: u149 :: u150 :: u151 :: u152 :: u153 :: u154 :: u155 :: u156 :: u157 :: u158 :: u159 :: u160 :: u161 :: u162 :: u163 :: u164 :: u165 :: u166 :: u167 :: u168 :: u169 :: u170 :: u171 :: u172 :: u173 :: u174 :: u175 :: u176 :: u177 :: u178 :: u179 :: u180 :: u181 :: u182 :: u183 :: u184 :: u185 :: u186 :: u187 :: u188 :: u189 :: u190 :: u191 :: u192 :: u193 :: u194 :: u195 :: u196 :: u197 :: u198 :: u199 :: u200 :: u201 :: u202 :: u203 :: u204 :: u205 :: u206 :: u207 :: u208 :: u209 :: u210 :: u211 :: u212 :: u213 :: u214 :: u215 :: u216 :: u217 :: u218 :: u219 :: u220 :: u221 :: u222 :: u223 :: u224 :: u225 :: u226 :: u227 :: u228 :: u229 :: u230 :: u231 :: u232 :: u233 :: u234 :: u235 :: u236 :: u237 :: u238 :: u239 :: u240 :: u241 :: u242 :: u243 :: u244 :: u245 :: u246 :: u247 :: u248 :: u249 :: u250 :: u251 :: u252 :: u253 :: u254 :: u255 :: u256 :: u257 :: u258 :: u259 :: u260 :: u261 :: u262 :: u263 :: u264 :: u265 :: u266 :: u267 :: u268 :: u269 :: u270 :: u271 :: u272 :: u273 :: u274 :: u275 :: u276 :: u277 :: u278 :: u279 :: u280 :: u281 :: u282 :: u283 :: u284 :: u285 :: u286 :: u287 :: u288 :: u289 :: u290 :: u291 :: u292 :: u293 :: u294 :: c295 :: c296 :: c297 :: c298 :: c299 :: c300 :: c301 :: c302 :: c303 :: c304 :: c305 :: c306 :: c307 :: c308 :: c309 :: c310 :: c311 :: c312 :: c313 :: c314 :: c315 :: c316 :: c317 :: c318 :: c319 :: c320 :: []).toArray, []⟩ w')) :
    Code.wp Tryd.prog (Code.loop (refLoop 2)) Q ⟨(c0 :: c1 :: c2 :: (.slice (some ⟨g, 0, none⟩) n cap) :: c4 :: c5 :: (.slice (some ⟨kg, 0, none⟩) 64 64) :: (.slice (some ⟨hb, 0, none⟩) 8 8) :: (.int .i64 0) :: c9 :: c10 :: c11 :: c12 :: c13 :: c14 :: c15 :: c16 :: c17 :: c18 :: c19 :: c20 :: c21 :: c22 :: c23 :: c24 :: c25 :: c26 :: c27 :: c28 :: c29 :: c30 :: c31 :: c32 :: c33 :: c34 :: c35 :: c36 :: c37 :: c38 :: c39 :: c40 :: c41 :: c42 :: c43 :: c44 :: c45 :: c46 :: c47 :: c48 :: c49 :: c50 :: c51 :: c52 :: c53 :: c54 :: c55 :: c56 :: c57 :: c58 :: c59 :: c60 :: c61 :: c62 :: c63 :: c64 :: c65 :: c66 :: c67 :: c68 :: c69 :: c70 :: c71 :: c72 :: c73 :: c74 :: c75 :: c76 :: c77 :: c78 :: c79 :: c80 :: c81 :: c82 :: c83 :: c84 :: c85 :: c86 :: c87 :: c88 :: c89 :: c90 :: c91 :: c92 :: c93 :: c94 :: c95 :: c96 :: c97 :: c98 :: c99 :: c100 :: c101 :: c102 :: c103 :: c104 :: c105 :: c106 :: c107 :: c108 :: c109 :: c110 :: c111 :: c112 :: c113 :: c114 :: c115 :: c116 :: c117 :: c118 :: c119 :: c120 :: c121 :: c122 :: c123 :: c124 :: c125 :: c126 :: c127 :: c128 :: c129 :: c130 :: c131 :: c132 :: c133 :: c134 :: c135 :: c136 :: c137 :: c138 :: c139 :: c140 :: c141 :: c142 :: c143 :: c144 :: c145 :: c146 :: c147 :: c148 :: c149 :: c150 :: c151 :: c152 :: c153 :: c154 :: c155 :: c156 :: c157 :: c158 :: c159 :: c160 :: c161 :: c162 :: c163 :: c164 :: c165 :: c166 :: c167 :: c168 :: c169 :: c170 :: c171 :: c172 :: c173 :: c174 :: c175 :: c176 :: c177 :: c178 :: c179 :: c180 :: c181 :: c182 :: c183 :: c184 :: c185 :: c186 :: c187 :: c188 :: c189 :: c190 :: c191 :: c192 :: c193 :: c194 :: c195 :: c196 :: c197 :: c198 :: c199 :: c200 :: c201 :: c202 :: c203 :: c204 :: c205 :: c206 :: c207 :: c208 :: c209 :: c210 :: c211 :: c212 :: c213 :: c214 :: c215 :: c216 :: c217 :: c218 :: c219 :: c220 :: c221 :: c222 :: c223 :: c224 :: c225 :: c226 :: c227 :: c228 :: c229 :: c230 :: c231 :: c232 :: c233 :: c234 :: c235 :: c236 :: c237 :: c238 :: c239 :: c240 :: c241 :: c242 :: c243 :: c244 :: c245 :: c246 :: c247 :: c248 :: c249 :: c250 :: c251 :: c252 :: c253 :: c254 :: c255 :: c256 :: c257 :: c258 :: c259 :: c260 :: c261 :: c262 :: c263 :: c264 :: c265 :: c266 :: c267 :: c268 :: c269 :: c270 :: c271 :: c272 :: c273 :: c274 :: c275 :: c276 :: c277 :: c278 :: c279 :: c280 :: c281 :: c282 :: c283 :: c284 :: c285 :: c286 :: c287 :: c288 :: c289 :: c290 :: c291 :: c292 :: c293 :: c294 :: c295 :: c296 :: c297 :: c298 :: c299 :: c300 :: c301 :: c302 :: c303 :: c304 :: c305 :: c306 :: c307 :: c308 :: c309 :: c310 :: c311 :: c312 :: c313 :: c314 :: c315 :: c316 :: c317 :: c318 :: c319 :: c320 :: []).toArray, []⟩ w := by
  conv => arg 2; arg 1; whnf
  have HP := Lib.hid hP
  have HN := Lib.hid hn
  have Hall := Lib.hid hall
  have HK := Lib.hid hk
  have HH := Lib.hid hh
  have HBn := Lib.hid hB
  clear hP hn hall hk hh hB
  go_loopw [8] (fun vi wr => ∃ j : Nat, j ≤ B ∧ vi = .int .i64 (64 * j : Nat) ∧ w.grownBy wr (some hb) ∧ wr.heap[hb]? = some (.cells (intL (Sha.chainW P j).list).toArray 3 (0, 0))) (fun vi _ => n - (intOf vi).toNat)
  case atStart => exact ⟨0, Nat.zero_le _, rfl, grown_refl _ _, HH.out⟩
  case round =>
    obtain ⟨j, hj, rfl, hg, hh⟩ := hrel
    have HG := Lib.hid hg
    have HB := Lib.hid hh
    clear hg hh
    obtain ⟨A, hA⟩ : ∃ A, A = 64 * j := ⟨_, rfl⟩
    rw [← hA]
    have HA := Lib.hid hA
    by_cases hlt : A < n
    · have hA64 : A + 64 ≤ n := by have := HBn.out; omega
      clear hA
      obtain ⟨s, hs⟩ : ∃ s, s = Sha.chainW P j := ⟨_, rfl⟩
      have hsok : s.ok := by
        rw [hs]
        cases j with
        | zero => exact Sha.first_ok
        | succ j => exact Sha.comp_ok _ _
      rw [← hs] at HB
      have HS := Lib.hid hs
      have Hok := Lib.hid hsok
      clear hs hsok
      obtain ⟨blk, hblk⟩ : ∃ b, b = (P.drop A).take 64 := ⟨_, rfl⟩
      have HBl : Hid (∀ i, blk.getD i 0 < 256) := Lib.hid (fun i => by rw [hblk]; exact Sha.getD_lt (by decide) (fun x hx => HP.out x (List.mem_of_mem_drop (List.mem_of_mem_take hx))) i)
      have Hblk := Lib.hid hblk
      clear hblk
      have hgw : g < wr.heap.size := Nat.lt_of_lt_of_le hgl HG.out.size
      have hbw : hb < wr.heap.size := Nat.lt_of_lt_of_le hhl HG.out.size
      have hkw : kg < wr.heap.size := Nat.lt_of_lt_of_le hkl HG.out.size
      have HO1 : Hid ((wr.alloc (.cells #[] 3)).ownsRow wr.heap.size 3 1 (.slice (some ⟨wr.heap.size, 0, none⟩) 0 0) 0 []) := Lib.hid (ownsRow_lit (alloc_at wr _) (Nat.le_refl _) (by simp))
      go_wp2_with (refine ref_loop4 P g n cap A _ wr _ HP.out HN.out hc hA64 hn2 hgw (fun i hi => (by rw [World.cell?_of_block (HG.out.block g hgl (by simp; exact hgh))]; exact Hall.out i hi)) (World.grownBy_alloc wr _ none) HO1.out (Lib.hid ?_); intros; rename_i w2 hg2 ho2; rw [← Hblk.out] at ho2; have HG2 := Lib.hid hg2; have HO2 := Lib.hid ho2; clear hg2 ho2)
      have hmem : Hid (∀ x ∈ Sha.sched blk, x < 4294967296) := Lib.hid (Sha.ext_lt (Sha.words blk 16) (Sha.words_lt blk HBl.out 16) 48)
      have HL : Hid ((intL s.list).length = 8) := Lib.hid rfl
      go_wp2_with (first
        | (at_builtin; refine wpList_appL (by rfl) (.tmp 155) (.tmp 156) 131 (by rfl) w3.heap.size 3 (.int .i64 0) 8 Tryd.underlying131 (by kernel_rfl) rfl (by decide) (.slice (some ⟨w3.heap.size, 0, none⟩) 0 0) 0 [] (by rfl) HO3.out ⟨hb, 0, none⟩ 8 8 (intL s.list) (by rfl) HL.out (fun j u hu => (by rw [addr_add]; exact cell_blk (((World.grownBy_alloc w3 _ none).block hb hb3 (by simp)).trans HB3.out) j (v := u) (by simpa using hu))) (intL_one _) (by omega) (by rw [alloc_size]; omega) ?_; intro v4 w4 ho4 hg4; obtain ⟨a4, vg, vc, rfl, q1', q2', q3', q4'⟩ := ownsRow_form ho4; obtain ⟨rfl, q5', q6'⟩ := q3' (by decide); have HG4 := Lib.hid (grown_own (World.grownBy_alloc w3 _ none) HO3.out (Nat.le_refl _) hg4); have HV4 : Hid (Eight w4 vg s) := Lib.hid (fun j hj => (by rw [q4' j (by omega)]; simp [intL, show s.list.length = 8 from rfl, hj])); have HG34 := Lib.hid (grown_trans HG3.out HG4.out); have hs4 := HG4.out.size; have hvh : vg ≠ hb := (by omega); have HK4 : Hid (∀ j, j < 64 → w4.cell? ⟨kg, j, none⟩ = some (.int .i64 (Sha.ks.getD j 0 : Nat))) := Lib.hid (fun j hj => (by rw [World.cell?_of_block (HG34.out.block kg hkw (by simp)), World.cell?_of_block (HG.out.block kg hkl (by simp; exact hkh))]; exact HK.out j hj)); have HW4 : Hid (∀ j, j < 64 → w4.cell? ⟨wg, j, none⟩ = some (.int .i64 ((Sha.sched blk).getD j 0 : Nat))) := Lib.hid (fun j hj => (by rw [World.cell?_of_block (HG4.out.block wg q6 (by simp))]; exact HW3.out j hj)); clear ho4 hg4 q2' q3' q4')
        | (refine ref_loop5 blk _ wr w2 HBl.out HG2.out HO2.out (Lib.hid ?_); intros; rename_i w3 hg3 ho3; obtain ⟨a3, wg, wc, rfl, q1, q2, q3, q4⟩ := ownsRow_form ho3; obtain ⟨rfl, q5, q6⟩ := q3 (by decide); have HG3 := Lib.hid hg3; have HW3 : Hid (∀ j, j < 64 → w3.cell? ⟨wg, j, none⟩ = some (.int .i64 ((Sha.sched blk).getD j 0 : Nat))) := Lib.hid (fun j hj => (by rw [q4 j hj]; simp [intL, Sha.sched_len, hj])); clear hg3 ho3 q2 q3 q4; have HB3 : Hid (w3.heap[hb]? = some (.cells (intL s.list).toArray 3 (0, 0))) := Lib.hid (by rw [HG3.out.block hb hbw (by simp)]; exact HB.out); have HO3 : Hid ((w3.alloc (.cells #[] 3)).ownsRow w3.heap.size 3 1 (.slice (some ⟨w3.heap.size, 0, none⟩) 0 0) 0 []) := Lib.hid (ownsRow_lit (alloc_at w3 _) (Nat.le_refl _) (by simp)); have hs3 := HG3.out.size; have hb3 : hb < w3.heap.size := Nat.lt_of_lt_of_le hbw hs3; clear HG2 HO2))
      go_wp2_with (refine ref_loop6 (Sha.sched blk) s _ w4 Hok.out hmem.out (Nat.le_refl _) q1 q1' HK4.out HW4.out HV4.out (by omega) (by omega) q6' (Lib.hid ?_); intros; rename_i vg5 vc5 w5 hg5 hc5 hl5 ho5 hv5; have HG5 := Lib.hid hg5; have HV5 := Lib.hid hv5; have hs5 := hg5.size; have hvh5 : vg5 ≠ hb := (by omega); have HB5 : Hid (w5.heap[hb]? = some (.cells (intL s.list).toArray 3 (0, 0))) := Lib.hid (by rw [HG5.out.block hb (by omega) (by simp), HG34.out.block hb hbw (by simp)]; exact HB.out); clear hg5 hv5)
      have HOr : Hid ((s.run Sha.ks (Sha.sched blk) 64).ok) := Lib.hid (Sha.St.run_ok Hok.out 64)
      have HC : Hid (Sha.chainW P (j + 1) = s.add (s.run Sha.ks (Sha.sched blk) 64)) := Lib.hid (by
        show Sha.comp (Sha.chainW P j) ((P.drop (64 * j)).take 64) = _
        unfold Sha.comp
        rw [HS.out, Hblk.out, HA.out])
      go_wp2_with (refine ref_loop7 s (s.run Sha.ks (Sha.sched blk) 64) _ w5 Hok.out HOr.out hc5 hvh5 hl5 HB5.out HV5.out (Lib.hid ?_); intros; rename_i w6 hg6 hb6; have HG6 := Lib.hid hg6; have HB6 := Lib.hid hb6; clear hg6 hb6)
      go_roundw
      case rel =>
        refine ⟨j + 1, ?_, ?_, grown_trans HG.out (grown_trans (grown_any (grown_trans HG34.out HG5.out)) HG6.out), by rw [HC.out]; exact HB6.out⟩
        · have := HA.out; have := HBn.out; omega
        · have := HA.out; go_num
      case measure => simp [intOf]; omega
    · obtain rfl : j = B := by have := HBn.out; omega
      go_wp2
      exact hQ.out _ _ _ _ _ _ _ _ _ _ _ _ _ _ _ _ _ _ _ _ _ _ _ _ _ _ _ _ _ _ _ _ _ _ _ _ _ _ _ _ _ _ _ _ _ _ _ _ _ _ _ _ _ _ _ _ _ _ _ _ _ _ _ _ _ _ _ _ _ _ _ _ _ _ _ _ _ _ _ _ _ _ _ _ _ _ _ _ _ _ _ _ _ _ _ _ _ _ _ _ _ _ _ _ _ _ _ _ _ _ _ _ _ _ _ _ _ _ _ _ _ _ _ _ _ _ _ _ _ _ _ _ _ _ _ _ _ _ _ _ _ _ _ _ _ _ _ _ _ _ _ _ _ _ _ _ _ _ _ _ _ _ _ _ _ _ _ _ _ _ _ _ _ _ _ _ _ _ _ _ _ _ _ _ _ _ _ _ _ _ _ _ _ _ _ _ _ _ _ _ _ _ _ _ _ _ _ _ _ _ _ _ _ _ _ _ _ _ _ _ _ _ _ _ _ _ _ _ _ _ _ _ _ _ _ _ _ _ _ _ _ _ _ _ _ _ _ _ _ _ _ _ _ HG.out HB.out
end Go.Proofs.YtgdnndapmcjoeaaDoor
