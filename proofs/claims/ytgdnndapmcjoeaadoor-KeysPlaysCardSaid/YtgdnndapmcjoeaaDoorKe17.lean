import Derived.Test.YtgdnndapmcjoeaaDoorKe00
import Derived.Test.YtgdnndapmcjoeaaDoorKe13
import Derived.Test.YtgdnndapmcjoeaaDoorKe16
import Derived.Laws.AppendOwnNone
namespace Go.Proofs.YtgdnndapmcjoeaaDoor
open Go.RowKit
theorem wrap_i64 (n : Nat) (h : n < 9223372036854775808) : IntKind.i64.wrap (n : Int) = n := by
  simp only [IntKind.wrap, IntKind.bits, IntKind.signed]
  simp
  omega
theorem ofInt_i64 (a : Nat) (ha : a < 9223372036854775808) : (BitVec.ofInt 64 (a : Int)).toNat = a := by
  rw [BitVec.ofInt_natCast, BitVec.toNat_ofNat]; exact Nat.mod_eq_of_lt (by omega)
theorem i64_and_nat (a b : Nat) (ha : a < 9223372036854775808) (hb : b < 9223372036854775808) : bits .and .i64 (a : Int) (b : Int) = ((a &&& b : Nat) : Int) := by
  have hx : a &&& b < 2 ^ 63 := Nat.and_lt_two_pow _ (by omega)
  show IntKind.i64.wrap ((BitVec.ofInt 64 (a : Int) &&& BitVec.ofInt 64 (b : Int)).toNat : Int) = _
  rw [BitVec.toNat_and, ofInt_i64 a ha, ofInt_i64 b hb, wrap_i64 _ hx]
theorem i64_or_nat (a b : Nat) (ha : a < 9223372036854775808) (hb : b < 9223372036854775808) : bits .or .i64 (a : Int) (b : Int) = ((a ||| b : Nat) : Int) := by
  have hx : a ||| b < 2 ^ 63 := Nat.or_lt_two_pow (by omega) (by omega)
  show IntKind.i64.wrap ((BitVec.ofInt 64 (a : Int) ||| BitVec.ofInt 64 (b : Int)).toNat : Int) = _
  rw [BitVec.toNat_or, ofInt_i64 a ha, ofInt_i64 b hb, wrap_i64 _ hx]
theorem i64_xor_nat (a b : Nat) (ha : a < 9223372036854775808) (hb : b < 9223372036854775808) : bits .xor .i64 (a : Int) (b : Int) = ((a ^^^ b : Nat) : Int) := by
  have hx : a ^^^ b < 2 ^ 63 := Nat.xor_lt_two_pow (by omega) (by omega)
  show IntKind.i64.wrap ((BitVec.ofInt 64 (a : Int) ^^^ BitVec.ofInt 64 (b : Int)).toNat : Int) = _
  rw [BitVec.toNat_xor, ofInt_i64 a ha, ofInt_i64 b hb, wrap_i64 _ hx]
theorem mask32 (a : Nat) : a &&& 4294967295 = a % 4294967296 := Nat.and_two_pow_sub_one_eq_mod a 32
theorem i64_mask (a : Nat) (ha : a < 9223372036854775808) : bits .and .i64 (a : Int) 4294967295 = ((a % 4294967296 : Nat) : Int) := by
  have := i64_and_nat a 4294967295 ha (by decide)
  rw [mask32] at this
  exact this
set_option maxHeartbeats 400000 in
theorem turn_any (x k : Nat) (hx : x < 4294967296) (hk : 1 < k) (hk2 : k < 32) (w : World) :
    Calls Tryd.prog 64 #[.int .i64 x, .int .i64 k] w fun e w' => e = .returned (.int .i64 (Sha.rotr x k : Nat)) ∧ w = w' := by
  obtain ⟨s, hs⟩ : ∃ s, s = 32 - k := ⟨_, rfl⟩
  have e1 : (32 - (k : Int)) = (s : Int) := by omega
  have s1 : s < 31 := by omega
  have hp : 2 ^ s ≤ 1073741824 := Nat.le_trans (Nat.pow_le_pow_right (by decide) (show s ≤ 30 by omega)) (by decide)
  have hm : x * 2 ^ s ≤ 4294967295 * 1073741824 := Nat.mul_le_mul (by omega) hp
  have hr : Hid (bits .or .i64 ((x : Int) / 2 ^ k) (bits .and .i64 ((x : Int) * 2 ^ s) 4294967295) = ((Sha.rotr x k : Nat) : Int)) := Lib.hid (by
    rw [show (x : Int) / 2 ^ k = ((x / 2 ^ k : Nat) : Int) by simp, show (x : Int) * 2 ^ s = ((x * 2 ^ s : Nat) : Int) by simp, i64_mask _ (by omega), i64_or_nat _ _ (by have := Sha.div_lt x k hx; omega) (by omega), Nat.or_comm, hs]
    rfl)
  have hw : Hid (wrap64 ((x : Int) * 2 ^ s) = (x : Int) * 2 ^ s) := Lib.hid (by
    rw [show (x : Int) * 2 ^ s = ((x * 2 ^ s : Nat) : Int) by simp]
    exact IntWalk.wrap64_in _ ⟨by omega, by omega⟩)
  clear hs hp hm
  go_enter Tryd.func64, Tryd.ntmps64
  go_wp2
  go_ret
  exact ⟨ret_int (by rw [hw.out]; exact hr.out), rfl⟩
def firstV : Array Value := (intL Sha.first.list).toArray
set_option maxHeartbeats 400000 in
theorem first_any (w : World) :
    Calls Tryd.prog 63 #[] w fun e w' => e = .returned (.slice (some ⟨w.heap.size, 0, none⟩) 8 8) ∧ w' = w.alloc (.cells firstV 3) := by
  go_enter Tryd.func63, Tryd.ntmps63
  go_wp2
  go_ret
  exact ⟨rfl, rfl⟩
end Go.Proofs.YtgdnndapmcjoeaaDoor
namespace Go.Proofs.YtgdnndapmcjoeaaDoor
open Go.RowKit
def loopsOf : Code → List Code
  | .seq a b => loopsOf a ++ loopsOf b
  | .cond _ a b => loopsOf a ++ loopsOf b
  | .block _ c => loopsOf c
  | .loop c => c :: loopsOf c
  | .scope c => loopsOf c
  | _ => []
noncomputable def refLoop (k : Nat) : Code := (((Tryd.f49.body.map loopsOf).getD [])[k]?).getD .skip
def bytesL (ws : List Nat) : List Value := ws.map fun (x : Nat) => Value.int .u8 (x : Int)
end Go.Proofs.YtgdnndapmcjoeaaDoor
namespace Go.Proofs.YtgdnndapmcjoeaaDoor
open Go.RowKit
namespace Sha
theorem not_bit (e i : Nat) (he : e < 4294967296) : (4294967295 - e).testBit i = (decide (i < 32) && !e.testBit i) := by
  rw [show 4294967295 - e = 2 ^ 32 - (e + 1) by omega, Nat.testBit_two_pow_sub_succ (by omega)]
theorem ch_or (e f g : Nat) (he : e < 4294967296) : (e &&& f) ||| ((4294967295 - e) &&& g) = ch e f g := by
  unfold ch
  apply Nat.eq_of_testBit_eq
  intro i
  rw [Nat.testBit_or, Nat.testBit_xor, Nat.testBit_and, Nat.testBit_and, not_bit e i he]
  cases e.testBit i <;> cases f.testBit i <;> cases g.testBit i <;> cases decide (i < 32) <;> rfl
theorem maj_or (a b c : Nat) : ((a &&& b) ||| (a &&& c)) ||| (b &&& c) = maj a b c := by
  unfold maj
  apply Nat.eq_of_testBit_eq
  intro i
  rw [Nat.testBit_or, Nat.testBit_or, Nat.testBit_xor, Nat.testBit_xor, Nat.testBit_and, Nat.testBit_and, Nat.testBit_and]
  cases a.testBit i <;> cases b.testBit i <;> cases c.testBit i <;> rfl
theorem or_add (i a b : Nat) (h : b < 2 ^ i) : a * 2 ^ i ||| b = a * 2 ^ i + b := by
  rw [Nat.mul_comm, Nat.two_pow_add_eq_or_of_lt h]
theorem word_sum (b : List Nat) (i : Nat) (hb : ∀ j, b.getD j 0 < 256) : word b i = b.getD (4 * i) 0 * 16777216 + b.getD (4 * i + 1) 0 * 65536 + b.getD (4 * i + 2) 0 * 256 + b.getD (4 * i + 3) 0 := by
  have h0 := hb (4 * i); have h1 := hb (4 * i + 1); have h2 := hb (4 * i + 2); have h3 := hb (4 * i + 3)
  unfold word
  generalize b.getD (4 * i) 0 = x0 at *
  generalize b.getD (4 * i + 1) 0 = x1 at *
  generalize b.getD (4 * i + 2) 0 = x2 at *
  generalize b.getD (4 * i + 3) 0 = x3 at *
  have e1 := or_add 24 x0 (x1 * 65536) (by omega)
  have e2 := or_add 16 (x0 * 256 + x1) (x2 * 256) (by omega)
  have e3 := or_add 8 (x0 * 65536 + x1 * 256 + x2) x3 (by omega)
  simp only [Nat.reducePow] at e1 e2 e3
  rw [e1, show x0 * 16777216 + x1 * 65536 = (x0 * 256 + x1) * 65536 by omega, e2, show (x0 * 256 + x1) * 65536 + x2 * 256 = (x0 * 65536 + x1 * 256 + x2) * 256 by omega, e3]
end Sha
theorem i64_ch (e f g : Nat) (he : e < 4294967296) (hf : f < 4294967296) (hg : g < 4294967296) :
    bits .or .i64 (bits .and .i64 (e : Int) (f : Int)) (bits .and .i64 (4294967295 - (e : Int)) (g : Int)) = ((Sha.ch e f g : Nat) : Int) := by
  rw [show (4294967295 - (e : Int)) = ((4294967295 - e : Nat) : Int) by omega, i64_and_nat _ _ (by omega) (by omega), i64_and_nat _ _ (by omega) (by omega),
    i64_or_nat _ _ (by have := Sha.and_lt (b := f) he; omega) (by have := Sha.and_lt (a := 4294967295 - e) (b := g) (by omega); omega), Sha.ch_or e f g he]
theorem i64_maj (a b c : Nat) (ha : a < 4294967296) (hb : b < 4294967296) (hc : c < 4294967296) :
    bits .or .i64 (bits .or .i64 (bits .and .i64 (a : Int) (b : Int)) (bits .and .i64 (a : Int) (c : Int))) (bits .and .i64 (b : Int) (c : Int)) = ((Sha.maj a b c : Nat) : Int) := by
  have h1 := Sha.and_lt (b := b) ha
  have h2 := Sha.and_lt (b := c) ha
  have h3 := Sha.and_lt (b := c) hb
  have h4 : (a &&& b) ||| (a &&& c) < 4294967296 := Nat.or_lt_two_pow (n := 32) h1 h2
  rw [i64_and_nat _ _ (by omega) (by omega), i64_and_nat _ _ (by omega) (by omega), i64_and_nat _ _ (by omega) (by omega), i64_or_nat _ _ (by omega) (by omega), i64_or_nat _ _ (by omega) (by omega), Sha.maj_or]
theorem i64_high (x i j k : Nat) (hx : x < 4294967296) : bits .xor .i64 (bits .xor .i64 (Sha.rotr x i : Nat) (Sha.rotr x j : Nat)) (Sha.rotr x k : Nat) = ((Sha.high x i j k : Nat) : Int) := by
  have h1 := Sha.rotr_lt x i hx
  have h2 := Sha.rotr_lt x j hx
  have h3 := Sha.rotr_lt x k hx
  have h4 := Sha.xor_lt h1 h2
  rw [i64_xor_nat _ _ (by omega) (by omega), i64_xor_nat _ _ (by omega) (by omega)]; rfl
theorem i64_low (x i j k : Nat) (q : Int) (hx : x < 4294967296) (hq : q = ((x / 2 ^ k : Nat) : Int)) : bits .xor .i64 (bits .xor .i64 (Sha.rotr x i : Nat) (Sha.rotr x j : Nat)) q = ((Sha.low x i j k : Nat) : Int) := by
  have h1 := Sha.rotr_lt x i hx
  have h2 := Sha.rotr_lt x j hx
  have h3 := Sha.div_lt x k hx
  have h4 := Sha.xor_lt h1 h2
  subst hq
  rw [i64_xor_nat _ _ (by omega) (by omega), i64_xor_nat _ _ (by omega) (by omega)]; rfl
theorem step_form (r : Sha.St) (kk ww : Nat) : r.step kk ww = ⟨(r.h + Sha.high r.e 6 11 25 + Sha.ch r.e r.f r.g + kk + ww + (Sha.high r.a 2 13 22 + Sha.maj r.a r.b r.c)) % 4294967296, r.a, r.b, r.c, (r.d + (r.h + Sha.high r.e 6 11 25 + Sha.ch r.e r.f r.g + kk + ww)) % 4294967296, r.e, r.f, r.g⟩ := by
  unfold Sha.St.step Sha.t1 Sha.t2
  generalize Sha.high r.e 6 11 25 = a
  generalize Sha.high r.a 2 13 22 = b
  generalize Sha.ch r.e r.f r.g = c
  generalize Sha.maj r.a r.b r.c = d
  have h1 : ((((r.h + a) % 4294967296 + c) % 4294967296 + kk) % 4294967296 + ww) % 4294967296 = (r.h + a + c + kk + ww) % 4294967296 := by omega
  rw [h1]
  have h2 : ((r.h + a + c + kk + ww) % 4294967296 + (b + d) % 4294967296) % 4294967296 = (r.h + a + c + kk + ww + (b + d)) % 4294967296 := by omega
  have h3 : (r.d + (r.h + a + c + kk + ww) % 4294967296) % 4294967296 = (r.d + (r.h + a + c + kk + ww)) % 4294967296 := by omega
  rw [h2, h3]
theorem mask7 (a b c d e f g : Nat) (ha : a < 4294967296) (hb : b < 4294967296) (hc : c < 4294967296) (hd : d < 4294967296) (he : e < 4294967296) (hf : f < 4294967296) (hg : g < 4294967296) :
    bits .and .i64 ((a : Int) + (b : Int) + (c : Int) + (d : Int) + (e : Int) + ((f : Int) + (g : Int))) 4294967295 = (((a + b + c + d + e + (f + g)) % 4294967296 : Nat) : Int) := by
  have h : (a : Int) + (b : Int) + (c : Int) + (d : Int) + (e : Int) + ((f : Int) + (g : Int)) = ((a + b + c + d + e + (f + g) : Nat) : Int) := by omega
  rw [h]; exact i64_mask _ (by omega)
theorem mask6 (a b c d e f : Nat) (ha : a < 4294967296) (hb : b < 4294967296) (hc : c < 4294967296) (hd : d < 4294967296) (he : e < 4294967296) (hf : f < 4294967296) :
    bits .and .i64 ((a : Int) + ((b : Int) + (c : Int) + (d : Int) + (e : Int) + (f : Int))) 4294967295 = (((a + (b + c + d + e + f)) % 4294967296 : Nat) : Int) := by
  have h : (a : Int) + ((b : Int) + (c : Int) + (d : Int) + (e : Int) + (f : Int)) = ((a + (b + c + d + e + f) : Nat) : Int) := by omega
  rw [h]; exact i64_mask _ (by omega)
end Go.Proofs.YtgdnndapmcjoeaaDoor
namespace Go.Proofs.YtgdnndapmcjoeaaDoor
open Go.RowKit
set_option linter.unusedVariables false
set_option maxRecDepth 1000000 in
set_option maxHeartbeats 4000000 in
theorem ref_loop1 {c0 c1 c2 c4 c5 c6 c7 c8 c9 c10 c11 c12 c13 c14 c15 c16 c17 c18 c19 c20 c21 c22 c23 c24 c25 c26 c27 c28 c29 c30 c31 c32 c33 c34 c35 c36 c37 c38 c39 c40 c41 c42 c43 c44 c45 c46 c47 c48 c49 c50 c51 c52 c53 c54 c55 c56 c57 c58 c59 c60 c61 c62 c63 c64 c65 c66 c67 c68 c69 c70 c71 c72 c73 c74 c75 c76 c77 c78 c79 c80 c81 c82 c83 c84 c85 c86 c87 c88 c89 c90 c91 c92 c93 c94 c95 c96 c97 c98 c99 c100 c101 c102 c103 c104 c105 c106 c107 c108 c109 c110 c111 c112 c113 c114 c115 c116 c117 c118 c119 c120 c121 c122 c123 c124 c125 c126 c127 c128 c129 c130 c131 c132 c133 c134 c135 c136 c137 c138 c139 c140 c141 c142 c143 c144 c145 c146 c147 c148 c149 c150 c151 c152 c153 c154 c155 c156 c157 c158 c159 c160 c161 c162 c163 c164 c165 c166 c167 c168 c169 c170 c171 c172 c173 c174 c175 c176 c177 c178 c179 c180 c181 c182 c183 c184 c185 c186 c187 c188 c189 c190 c191 c192 c193 c194 c195 c196 c197 c198 c199 c200 c201 c202 c203 c204 c205 c206 c207 c208 c209 c210 c211 c212 c213 c214 c215 c216 c217 c218 c219 c220 c221 c222 c223 c224 c225 c226 c227 c228 c229 c230 c231 c232 c233 c234 c235 c236 c237 c238 c239 c240 c241 c242 c243 c244 c245 c246 c247 c248 c249 c250 c251 c252 c253 c254 c255 c256 c257 c258 c259 c260 c261 c262 c263 c264 c265 c266 c267 c268 c269 c270 c271 c272 c273 c274 c275 c276 c277 c278 c279 c280 c281 c282 c283 c284 c285 c286 c287 c288 c289 c290 c291 c292 c293 c294 c295 c296 c297 c298 c299 c300 c301 c302 c303 c304 c305 c306 c307 c308 c309 c310 c311 c312 c313 c314 c315 c316 c317 c318 c319 c320 v : Value} (M : List Nat) (Q : Exit → Act → World → Prop) (w0 w : World) (hM : M.length < 1099511627000) (hg : w0.grownBy w none) (ho : w.ownsRow w0.heap.size 5 1 v (M.length + 1) (bytesL (M ++ [128])))
    (hQ : Hid (∀ (u3 u34 u35 u36 u37 u38 u39 u40 : Value) (w' : World), w0.grownBy w' none → w'.ownsRow w0.heap.size 5 1 u3 (M.length + 1 + Sha.nz M.length) (bytesL (M ++ (128 :: List.replicate (Sha.nz M.length) 0))) → Q (.exit 0) ⟨(c0 :: c1 :: c2 :: u3 :: c4 :: c5 :: c6 :: c7 :: c8 :: c9 :: c10 :: c11 :: c12 :: c13 :: c14 :: c15 :: c16 :: c17 :: c18 :: c19 :: c20 :: c21 :: c22 :: c23 :: c24 :: c25 :: c26 :: c27 :: c28 :: c29 :: c30 :: c31 :: c32 :: c33 :: u34 :: u35 :: u36 :: u37 :: u38 :: u39 :: u40 :: c41 :: c42 :: c43 :: c44 :: c45 :: c46 :: c47 :: c48 :: c49 :: c50 :: c51 :: c52 :: c53 :: c54 :: c55 :: c56 :: c57 :: c58 :: c59 :: c60 :: c61 :: c62 :: c63 :: c64 :: c65 :: c66 :: c67 :: c68 :: c69 :: c70 :: c71 :: c72 :: c73 :: c74 :: c75 :: c76 :: c77 :: c78 :: c79 :: c80 :: c81 :: c82 :: c83 :: c84 :: c85 :: c86 :: c87 :: c88 :: c89 :: c90 :: c91 :: c92 :: c93 :: c94 :: c95 :: c96 :: c97 :: c98 :: c99 :: c100 :: c101 :: c102 :: c103 :: c104 :: c105 :: c106 :: c107 :: c108 :: c109 :: c110 :: c111 :: c112 :: c113 :: c114 :: c115 :: c116 :: c117 :: c118 :: c119 :: c120 :: c121 :: c122 :: c123 :: c124 :: c125 :: c126 :: c127 :: c128 :: c129 :: c130 :: c131 :: c132 :: c133 :: c134 :: c135 :: c136 :: c137 :: c138 :: c139 :: c140 :: c141 :: c142 :: c143 :: c144 :: c145 :: c146 :: c147 :: c148 :: c149 :: c150 :: c151 :: c152 :: c153 :: c154 :: c155 :: c156 :: c157 :: c158 :: c159 :: c160 :: c161 :: c162 :: c163 :: c164 :: c165 :: c166 :: c167 :: c168 :: c169 :: c170 :: c171 :: c172 :: c173 :: c174 :: c175 :: c176 :: c177 :: c178 :: c179 :: c180 :: c181 :: c182 :: c183 :: c184 :: c185 :: c186 :: c187 :: c188 :: c189 :: c190 :: c191 :: c192 :: c193 :: c194 :: c195 :: c196 :: c197 :: c198 :: c199 :: c200 :: c201 :: c202 :: c203 :: c204 :: c205 :: c206 :: c207 :: c208 :: c209 :: c210 :: c211 :: c212 :: c213 :: c214 :: c215 :: c216 :: c217 :: c218 :: c219 :: c220 :: c221 :: c222 :: c223 :: c224 :: c225 :: c226 :: c227 :: c228 :: c229 :: c230 :: c231 :: c232 :: c233 :: c234 :: c235 :: c236 :: c237 :: c238 :: c239 :: c240 :: c241 :: c242 :: c243 :: c244 :: c245 :: c246 :: c247 :: c248 :: c249 :: c250 :: c251 :: c252 :: c253 :: c254 :: c255 :: c256 :: c257 :: c258 :: c259 :: c260 :: c261 :: c262 :: c263 :: c264 :: c265 :: c266 :: c267 :: c268 :: c269 :: c270 :: c271 :: c272 :: c273 :: c274 :: c275 :: c276 :: c277 :: c278 :: c279 :: c280 :: c281 :: c282 :: c283 :: c284 :: c285 :: c286 :: c287 :: c288 :: c289 :: c290 :: c291 :: c292 :: c293 :: c294 :: c295 :: c296 :: c297 :: c298 :: c299 :: c300 :: c301 :: c302 :: c303 :: c304 :: c305 :: c306 :: c307 :: c308 :: c309 :: c310 :: c311 :: c312 :: c313 :: c314 :: c315 :: c316 :: c317 :: c318 :: c319 :: c320 :: []).toArray, []⟩ w')) :
    Code.wp Tryd.prog (Code.loop (refLoop 0)) Q ⟨(c0 :: c1 :: c2 :: v :: c4 :: c5 :: c6 :: c7 :: c8 :: c9 :: c10 :: c11 :: c12 :: c13 :: c14 :: c15 :: c16 :: c17 :: c18 :: c19 :: c20 :: c21 :: c22 :: c23 :: c24 :: c25 :: c26 :: c27 :: c28 :: c29 :: c30 :: c31 :: c32 :: c33 :: c34 :: c35 :: c36 :: c37 :: c38 :: c39 :: c40 :: c41 :: c42 :: c43 :: c44 :: c45 :: c46 :: c47 :: c48 :: c49 :: c50 :: c51 :: c52 :: c53 :: c54 :: c55 :: c56 :: c57 :: c58 :: c59 :: c60 :: c61 :: c62 :: c63 :: c64 :: c65 :: c66 :: c67 :: c68 :: c69 :: c70 :: c71 :: c72 :: c73 :: c74 :: c75 :: c76 :: c77 :: c78 :: c79 :: c80 :: c81 :: c82 :: c83 :: c84 :: c85 :: c86 :: c87 :: c88 :: c89 :: c90 :: c91 :: c92 :: c93 :: c94 :: c95 :: c96 :: c97 :: c98 :: c99 :: c100 :: c101 :: c102 :: c103 :: c104 :: c105 :: c106 :: c107 :: c108 :: c109 :: c110 :: c111 :: c112 :: c113 :: c114 :: c115 :: c116 :: c117 :: c118 :: c119 :: c120 :: c121 :: c122 :: c123 :: c124 :: c125 :: c126 :: c127 :: c128 :: c129 :: c130 :: c131 :: c132 :: c133 :: c134 :: c135 :: c136 :: c137 :: c138 :: c139 :: c140 :: c141 :: c142 :: c143 :: c144 :: c145 :: c146 :: c147 :: c148 :: c149 :: c150 :: c151 :: c152 :: c153 :: c154 :: c155 :: c156 :: c157 :: c158 :: c159 :: c160 :: c161 :: c162 :: c163 :: c164 :: c165 :: c166 :: c167 :: c168 :: c169 :: c170 :: c171 :: c172 :: c173 :: c174 :: c175 :: c176 :: c177 :: c178 :: c179 :: c180 :: c181 :: c182 :: c183 :: c184 :: c185 :: c186 :: c187 :: c188 :: c189 :: c190 :: c191 :: c192 :: c193 :: c194 :: c195 :: c196 :: c197 :: c198 :: c199 :: c200 :: c201 :: c202 :: c203 :: c204 :: c205 :: c206 :: c207 :: c208 :: c209 :: c210 :: c211 :: c212 :: c213 :: c214 :: c215 :: c216 :: c217 :: c218 :: c219 :: c220 :: c221 :: c222 :: c223 :: c224 :: c225 :: c226 :: c227 :: c228 :: c229 :: c230 :: c231 :: c232 :: c233 :: c234 :: c235 :: c236 :: c237 :: c238 :: c239 :: c240 :: c241 :: c242 :: c243 :: c244 :: c245 :: c246 :: c247 :: c248 :: c249 :: c250 :: c251 :: c252 :: c253 :: c254 :: c255 :: c256 :: c257 :: c258 :: c259 :: c260 :: c261 :: c262 :: c263 :: c264 :: c265 :: c266 :: c267 :: c268 :: c269 :: c270 :: c271 :: c272 :: c273 :: c274 :: c275 :: c276 :: c277 :: c278 :: c279 :: c280 :: c281 :: c282 :: c283 :: c284 :: c285 :: c286 :: c287 :: c288 :: c289 :: c290 :: c291 :: c292 :: c293 :: c294 :: c295 :: c296 :: c297 :: c298 :: c299 :: c300 :: c301 :: c302 :: c303 :: c304 :: c305 :: c306 :: c307 :: c308 :: c309 :: c310 :: c311 :: c312 :: c313 :: c314 :: c315 :: c316 :: c317 :: c318 :: c319 :: c320 :: []).toArray, []⟩ w := by
  conv => arg 2; arg 1; whnf
  have HG := Lib.hid hg
  have HO := Lib.hid ho
  clear hg ho
  go_loopw [3] (fun v wr => ∃ k : Nat, k ≤ Sha.nz M.length ∧ w0.grownBy wr none ∧ wr.ownsRow w0.heap.size 5 1 v (M.length + 1 + k) (bytesL (M ++ (128 :: List.replicate k 0)))) (fun v _ => match v with | .slice _ m _ => M.length + 1 + Sha.nz M.length - m | _ => 0)
  case atStart => exact ⟨0, Nat.zero_le _, HG.out, HO.out⟩
  case round =>
    obtain ⟨k, hk, hg, ho⟩ := hrel
    obtain ⟨a, g, c, rfl, hf⟩ := ownsRow_form ho
    have hz := Sha.nz_le M.length
    obtain ⟨m, hm⟩ : ∃ m, m = M.length + 1 + k := ⟨_, rfl⟩
    rw [← hm] at ho ⊢
    have hml : m < 1099511627776 := by omega
    have HG' := Lib.hid hg
    have HO' := Lib.hid ho
    have Hm := Lib.hid hm
    by_cases hkz : k < Sha.nz M.length
    · have hb : (((m : Int) % 64) != 56) = true := by rw [bne_iff_ne]; unfold Sha.nz at hkz; omega
      clear hg ho hm hf
      go_wp2_with (at_builtin; refine wpList_app1 (by rfl) (.tmp 38) (.tmp 39) 22 (by rfl) w0.heap.size 5 (.int .u8 0) 1 Tryd.underlying22 (by kernel_rfl) rfl (by decide) (.slice a m c) m _ (by rfl) (HO'.out.alloc _) ⟨wr.heap.size, 0, none⟩ (.int .u8 0) (by rfl) (cell_blk (alloc_at _ _) 0 rfl) rfl (by omega) (by have := HG'.out.size; rw [alloc_size]; omega) ?_; intro v' w3 ho3 hg3; have HO3 := Lib.hid ho3; have HG3 := Lib.hid (grown_own (grown_alloc HG'.out _) (HO'.out.alloc _) (Nat.le_refl _) hg3); obtain ⟨a3, g3, c3', rfl, hf3⟩ := ownsRow_form ho3; clear ho3 hg3 hf3)
      go_roundw
      case rel =>
        refine ⟨k + 1, by omega, HG3.out, ?_⟩
        have := HO3.out
        rw [Hm.out] at this
        rw [Hm.out, show M.length + 1 + (k + 1) = M.length + 1 + k + 1 by omega]
        simpa [bytesL, List.replicate_succ'] using this
      case measure => have := Hm.out; simp; omega
    · obtain rfl : k = Sha.nz M.length := by omega
      have hb : (((m : Int) % 64) != 56) = false := by rw [bne_eq_false_iff_eq]; unfold Sha.nz at hm; omega
      clear hg ho hm hf
      go_wp2
      exact hQ.out _ _ _ _ _ _ _ _ _ HG'.out (by rw [← Hm.out]; exact HO'.out)
end Go.Proofs.YtgdnndapmcjoeaaDoor
namespace Go.Proofs.YtgdnndapmcjoeaaDoor
open Go.RowKit
set_option linter.unusedVariables false
set_option maxRecDepth 1000000 in
set_option maxHeartbeats 4000000 in
theorem ref_loop2 {c0 c1 c2 c6 c7 c8 c9 c10 c11 c12 c13 c14 c15 c16 c17 c18 c19 c20 c21 c22 c23 c24 c25 c26 c27 c28 c29 c30 c31 c32 c33 c34 c35 c36 c37 c38 c39 c40 c41 c42 c43 c44 c45 c46 c47 c48 c49 c50 c51 c52 c53 c54 c55 c56 c57 c58 c59 c60 c61 c62 c63 c64 c65 c66 c67 c68 c69 c70 c71 c72 c73 c74 c75 c76 c77 c78 c79 c80 c81 c82 c83 c84 c85 c86 c87 c88 c89 c90 c91 c92 c93 c94 c95 c96 c97 c98 c99 c100 c101 c102 c103 c104 c105 c106 c107 c108 c109 c110 c111 c112 c113 c114 c115 c116 c117 c118 c119 c120 c121 c122 c123 c124 c125 c126 c127 c128 c129 c130 c131 c132 c133 c134 c135 c136 c137 c138 c139 c140 c141 c142 c143 c144 c145 c146 c147 c148 c149 c150 c151 c152 c153 c154 c155 c156 c157 c158 c159 c160 c161 c162 c163 c164 c165 c166 c167 c168 c169 c170 c171 c172 c173 c174 c175 c176 c177 c178 c179 c180 c181 c182 c183 c184 c185 c186 c187 c188 c189 c190 c191 c192 c193 c194 c195 c196 c197 c198 c199 c200 c201 c202 c203 c204 c205 c206 c207 c208 c209 c210 c211 c212 c213 c214 c215 c216 c217 c218 c219 c220 c221 c222 c223 c224 c225 c226 c227 c228 c229 c230 c231 c232 c233 c234 c235 c236 c237 c238 c239 c240 c241 c242 c243 c244 c245 c246 c247 c248 c249 c250 c251 c252 c253 c254 c255 c256 c257 c258 c259 c260 c261 c262 c263 c264 c265 c266 c267 c268 c269 c270 c271 c272 c273 c274 c275 c276 c277 c278 c279 c280 c281 c282 c283 c284 c285 c286 c287 c288 c289 c290 c291 c292 c293 c294 c295 c296 c297 c298 c299 c300 c301 c302 c303 c304 c305 c306 c307 c308 c309 c310 c311 c312 c313 c314 c315 c316 c317 c318 c319 c320 v : Value} (N L : Nat) (P0 : List Nat) (Q : Exit → Act → World → Prop) (w0 w : World) (hN : N < 9223372036854775807) (hL : L < 1099511627000) (hPL : P0.length = L) (hg : w0.grownBy w none) (ho : w.ownsRow w0.heap.size 5 1 v L (bytesL P0))
    (hQ : Hid (∀ (u3 u5 u44 u45 u46 u47 u48 u49 u50 u51 u52 u53 u54 u55 u56 : Value) (w' : World), w0.grownBy w' none → w'.ownsRow w0.heap.size 5 1 u3 (L + 8) (bytesL (P0 ++ Sha.be8N N 8)) → Q (.exit 2) ⟨(c0 :: c1 :: c2 :: u3 :: (.int .i64 (N : Int)) :: u5 :: c6 :: c7 :: c8 :: c9 :: c10 :: c11 :: c12 :: c13 :: c14 :: c15 :: c16 :: c17 :: c18 :: c19 :: c20 :: c21 :: c22 :: c23 :: c24 :: c25 :: c26 :: c27 :: c28 :: c29 :: c30 :: c31 :: c32 :: c33 :: c34 :: c35 :: c36 :: c37 :: c38 :: c39 :: c40 :: c41 :: c42 :: c43 :: u44 :: u45 :: u46 :: u47 :: u48 :: u49 :: u50 :: u51 :: u52 :: u53 :: u54 :: u55 :: u56 :: c57 :: c58 :: c59 :: c60 :: c61 :: c62 :: c63 :: c64 :: c65 :: c66 :: c67 :: c68 :: c69 :: c70 :: c71 :: c72 :: c73 :: c74 :: c75 :: c76 :: c77 :: c78 :: c79 :: c80 :: c81 :: c82 :: c83 :: c84 :: c85 :: c86 :: c87 :: c88 :: c89 :: c90 :: c91 :: c92 :: c93 :: c94 :: c95 :: c96 :: c97 :: c98 :: c99 :: c100 :: c101 :: c102 :: c103 :: c104 :: c105 :: c106 :: c107 :: c108 :: c109 :: c110 :: c111 :: c112 :: c113 :: c114 :: c115 :: c116 :: c117 :: c118 :: c119 :: c120 :: c121 :: c122 :: c123 :: c124 :: c125 :: c126 :: c127 :: c128 :: c129 :: c130 :: c131 :: c132 :: c133 :: c134 :: c135 :: c136 :: c137 :: c138 :: c139 :: c140 :: c141 :: c142 :: c143 :: c144 :: c145 :: c146 :: c147 :: c148 :: c149 :: c150 :: c151 :: c152 :: c153 :: c154 :: c155 :: c156 :: c157 :: c158 :: c159 :: c160 :: c161 :: c162 :: c163 :: c164 :: c165 :: c166 :: c167 :: c168 :: c169 :: c170 :: c171 :: c172 :: c173 :: c174 :: c175 :: c176 :: c177 :: c178 :: c179 :: c180 :: c181 :: c182 :: c183 :: c184 :: c185 :: c186 :: c187 :: c188 :: c189 :: c190 :: c191 :: c192 :: c193 :: c194 :: c195 :: c196 :: c197 :: c198 :: c199 :: c200 :: c201 :: c202 :: c203 :: c204 :: c205 :: c206 :: c207 :: c208 :: c209 :: c210 :: c211 :: c212 :: c213 :: c214 :: c215 :: c216 :: c217 :: c218 :: c219 :: c220 :: c221 :: c222 :: c223 :: c224 :: c225 :: c226 :: c227 :: c228 :: c229 :: c230 :: c231 :: c232 :: c233 :: c234 :: c235 :: c236 :: c237 :: c238 :: c239 :: c240 :: c241 :: c242 :: c243 :: c244 :: c245 :: c246 :: c247 :: c248 :: c249 :: c250 :: c251 :: c252 :: c253 :: c254 :: c255 :: c256 :: c257 :: c258 :: c259 :: c260 :: c261 :: c262 :: c263 :: c264 :: c265 :: c266 :: c267 :: c268 :: c269 :: c270 :: c271 :: c272 :: c273 :: c274 :: c275 :: c276 :: c277 :: c278 :: c279 :: c280 :: c281 :: c282 :: c283 :: c284 :: c285 :: c286 :: c287 :: c288 :: c289 :: c290 :: c291 :: c292 :: c293 :: c294 :: c295 :: c296 :: c297 :: c298 :: c299 :: c300 :: c301 :: c302 :: c303 :: c304 :: c305 :: c306 :: c307 :: c308 :: c309 :: c310 :: c311 :: c312 :: c313 :: c314 :: c315 :: c316 :: c317 :: c318 :: c319 :: c320 :: []).toArray, []⟩ w')) :
    Code.wp Tryd.prog (Code.loop (refLoop 1)) Q ⟨(c0 :: c1 :: c2 :: v :: (.int .i64 (N : Int)) :: (.int .i64 7) :: c6 :: c7 :: c8 :: c9 :: c10 :: c11 :: c12 :: c13 :: c14 :: c15 :: c16 :: c17 :: c18 :: c19 :: c20 :: c21 :: c22 :: c23 :: c24 :: c25 :: c26 :: c27 :: c28 :: c29 :: c30 :: c31 :: c32 :: c33 :: c34 :: c35 :: c36 :: c37 :: c38 :: c39 :: c40 :: c41 :: c42 :: c43 :: c44 :: c45 :: c46 :: c47 :: c48 :: c49 :: c50 :: c51 :: c52 :: c53 :: c54 :: c55 :: c56 :: c57 :: c58 :: c59 :: c60 :: c61 :: c62 :: c63 :: c64 :: c65 :: c66 :: c67 :: c68 :: c69 :: c70 :: c71 :: c72 :: c73 :: c74 :: c75 :: c76 :: c77 :: c78 :: c79 :: c80 :: c81 :: c82 :: c83 :: c84 :: c85 :: c86 :: c87 :: c88 :: c89 :: c90 :: c91 :: c92 :: c93 :: c94 :: c95 :: c96 :: c97 :: c98 :: c99 :: c100 :: c101 :: c102 :: c103 :: c104 :: c105 :: c106 :: c107 :: c108 :: c109 :: c110 :: c111 :: c112 :: c113 :: c114 :: c115 :: c116 :: c117 :: c118 :: c119 :: c120 :: c121 :: c122 :: c123 :: c124 :: c125 :: c126 :: c127 :: c128 :: c129 :: c130 :: c131 :: c132 :: c133 :: c134 :: c135 :: c136 :: c137 :: c138 :: c139 :: c140 :: c141 :: c142 :: c143 :: c144 :: c145 :: c146 :: c147 :: c148 :: c149 :: c150 :: c151 :: c152 :: c153 :: c154 :: c155 :: c156 :: c157 :: c158 :: c159 :: c160 :: c161 :: c162 :: c163 :: c164 :: c165 :: c166 :: c167 :: c168 :: c169 :: c170 :: c171 :: c172 :: c173 :: c174 :: c175 :: c176 :: c177 :: c178 :: c179 :: c180 :: c181 :: c182 :: c183 :: c184 :: c185 :: c186 :: c187 :: c188 :: c189 :: c190 :: c191 :: c192 :: c193 :: c194 :: c195 :: c196 :: c197 :: c198 :: c199 :: c200 :: c201 :: c202 :: c203 :: c204 :: c205 :: c206 :: c207 :: c208 :: c209 :: c210 :: c211 :: c212 :: c213 :: c214 :: c215 :: c216 :: c217 :: c218 :: c219 :: c220 :: c221 :: c222 :: c223 :: c224 :: c225 :: c226 :: c227 :: c228 :: c229 :: c230 :: c231 :: c232 :: c233 :: c234 :: c235 :: c236 :: c237 :: c238 :: c239 :: c240 :: c241 :: c242 :: c243 :: c244 :: c245 :: c246 :: c247 :: c248 :: c249 :: c250 :: c251 :: c252 :: c253 :: c254 :: c255 :: c256 :: c257 :: c258 :: c259 :: c260 :: c261 :: c262 :: c263 :: c264 :: c265 :: c266 :: c267 :: c268 :: c269 :: c270 :: c271 :: c272 :: c273 :: c274 :: c275 :: c276 :: c277 :: c278 :: c279 :: c280 :: c281 :: c282 :: c283 :: c284 :: c285 :: c286 :: c287 :: c288 :: c289 :: c290 :: c291 :: c292 :: c293 :: c294 :: c295 :: c296 :: c297 :: c298 :: c299 :: c300 :: c301 :: c302 :: c303 :: c304 :: c305 :: c306 :: c307 :: c308 :: c309 :: c310 :: c311 :: c312 :: c313 :: c314 :: c315 :: c316 :: c317 :: c318 :: c319 :: c320 :: []).toArray, []⟩ w := by
  conv => arg 2; arg 1; whnf
  have HG := Lib.hid hg
  have HO := Lib.hid ho
  have HPL := Lib.hid hPL
  clear hg ho hPL
  go_loopw [3, 5] (fun v vi wr => ∃ m : Nat, m ≤ 8 ∧ vi = .int .i64 ((m : Int) - 1) ∧ w0.grownBy wr none ∧ wr.ownsRow w0.heap.size 5 1 v (L + (8 - m)) (bytesL (P0 ++ Sha.be8N N (8 - m)))) (fun _ vi _ => (intOf vi + 1).toNat)
  case atStart => exact ⟨8, Nat.le_refl _, rfl, HG.out, by simpa [Sha.be8N] using HO.out⟩
  case round =>
    obtain ⟨m, hm, rfl, hg, ho⟩ := hrel
    obtain ⟨a, g, c, rfl, hf⟩ := ownsRow_form ho
    have HG' := Lib.hid hg
    have HO' := Lib.hid ho
    clear hg ho hf
    match m with
    | 0 =>
      rw [show ((0 : Nat) : Int) - 1 = -1 from rfl]
      go_wp2
      exact hQ.out _ _ _ _ _ _ _ _ _ _ _ _ _ _ _ _ HG'.out HO'.out
    | k + 1 =>
      rw [show ((k + 1 : Nat) : Int) - 1 = (k : Int) by omega]
      obtain ⟨q, hq⟩ : ∃ q, q = L + (8 - (k + 1)) := ⟨_, rfl⟩
      rw [← hq] at HO' ⊢
      have hql : q < 1099511627776 := by omega
      have Hq := Lib.hid hq
      have hk : k < 8 := by omega
      clear hq hm
      obtain ⟨x, hx⟩ : ∃ x, x = N / 2 ^ (8 * k) % 256 := ⟨_, rfl⟩
      have hx1 : ((N : Int) / 2 ^ (8 * k)) % 256 = (x : Int) := by rw [hx]; simp
      have HB : Hid (Sha.be8N N (8 - k) = Sha.be8N N (8 - (k + 1)) ++ [x]) := Lib.hid (by
        rw [show 8 - k = (8 - (k + 1)) + 1 by omega, Sha.be8N, hx, show 56 - 8 * (8 - (k + 1)) = 8 * k by omega])
      have Hx1 := Lib.hid hx1
      clear hx hx1
      go_wp2_with (at_builtin; refine wpList_app1 (by rfl) (.tmp 48) (.tmp 55) 22 (by rfl) w0.heap.size 5 (.int .u8 0) 1 Tryd.underlying22 (by kernel_rfl) rfl (by decide) (.slice a q c) q _ (by rfl) (HO'.out.alloc _) ⟨wr.heap.size, 0, none⟩ (.int .u8 ((N : Int) / 2 ^ (8 * k) % 256)) (by rfl) (cell_blk (alloc_at _ _) 0 rfl) rfl (by omega) (by have := HG'.out.size; rw [alloc_size]; omega) ?_; intro v' w3 ho3 hg3; have HO3 := Lib.hid ho3; have HG3 := Lib.hid (grown_own (grown_alloc HG'.out _) (HO'.out.alloc _) (Nat.le_refl _) hg3); clear ho3 hg3)
      go_roundw
      case rel =>
        refine ⟨k, by omega, rfl, HG3.out, ?_⟩
        have := HO3.out
        rw [Hx1.out] at this
        have hqq := Hq.out
        rw [HB.out, show L + (8 - k) = q + 1 by omega]
        simpa [bytesL] using this
      case measure => simp [intOf]
end Go.Proofs.YtgdnndapmcjoeaaDoor
