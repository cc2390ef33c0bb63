/- Division word by word: the guess. (Made by wip/drafts/genKn.py.) -/
import Derived.Test.YtckkhpegimkefaaGreatDoorM22
namespace Go.Proofs.YtckkhpegimkefaaGreatDoor
open Go.RowKit
set_option linter.unusedVariables false
set_option linter.unusedSimpArgs false
set_option maxRecDepth 1000000

theorem u64_or {a b : Nat} (ha : a < 4294967296) (hb : b < 4294967296) : ∃ hs h : Nat, h = a * B32 + b ∧ IntKind.u64.wrap (a : Int) = (a : Int) ∧ IntKind.u64.wrap (b : Int) = (b : Int) ∧ IntKind.u64.wrap ((a : Int) * 4294967296) = (hs : Int) ∧ bits .or .u64 (hs : Int) (b : Int) = (h : Int) ∧ h < 18446744073709551616 := by
  refine ⟨a * 4294967296, a * 4294967296 + b, rfl, wraps_u64 _ (by omega) (by omega), wraps_u64 _ (by omega) (by omega), ?_, ?_, by omega⟩
  · rw [wraps_u64 _ (by omega) (by omega)]; omega
  · rw [or_nat .u64 64 (by decide) (fun n h0 h1 => wraps_u64 n h0 h1) (a * 4294967296) b (by omega) (by omega), or_words a b hb]
theorem p_nums {j n lu z p p1 p2 : Nat} (hp : p = j + n) (h1 : p1 = p - 1) (h2 : p2 = p - 2) (hn : 2 ≤ n) (hl : ((j + n : Nat) : Int) ≤ 100000) (hlu : lu = j + n + 1 + z) : IntKind.i64.wrap ((j : Int) + (n : Int)) = (p : Int) ∧ wrap64 ((j : Int) + (n : Int)) = (p : Int) ∧ (p : Int) < (lu : Int) ∧ IntKind.i64.wrap ((p : Int) - 1) = (p1 : Int) ∧ (p1 : Int) < (lu : Int) ∧ wrap64 ((p : Int) - 2) = (p2 : Int) ∧ IntKind.i64.wrap ((p : Int) - 2) = (p2 : Int) ∧ (p2 : Int) < (lu : Int) := by
  have e1 : IntKind.i64.wrap ((j : Int) + (n : Int)) = (p : Int) := by rw [IntKind.wrap_i64]; omega
  have e2 : IntKind.i64.wrap ((p : Int) - 1) = (p1 : Int) := by rw [IntKind.wrap_i64]; omega
  have e3 : IntKind.i64.wrap ((p : Int) - 2) = (p2 : Int) := by rw [IntKind.wrap_i64]; omega
  exact ⟨e1, by rw [← e1, IntKind.wrap_i64]; unfold wrap64; omega, by omega, e2, by omega, by rw [← e3, IntKind.wrap_i64]; unfold wrap64; omega, e3, by omega⟩
theorem quo_nums {h top : Nat} (hh : h < 18446744073709551616) (ht : 0 < top) : ((top : Int) == 0) = false ∧ ¬ (top : Int) = 0 ∧ IntKind.u64.wrap ((h : Int).tdiv (top : Int)) = ((h / top : Nat) : Int) ∧ IntKind.u64.wrap ((h : Int).tmod (top : Int)) = ((h % top : Nat) : Int) ∧ (h : Int).tdiv (top : Int) = ((h / top : Nat) : Int) ∧ (h : Int).tmod (top : Int) = ((h % top : Nat) : Int) ∧ ¬ top = 0 ∧ IntKind.u64.wrap ((h / top : Nat) : Int) = ((h / top : Nat) : Int) ∧ IntKind.u64.wrap ((h % top : Nat) : Int) = ((h % top : Nat) : Int) := by
  have e1 : (h : Int).tdiv (top : Int) = ((h / top : Nat) : Int) := by simp [Int.tdiv_eq_ediv_of_nonneg]
  have e2 : (h : Int).tmod (top : Int) = ((h % top : Nat) : Int) := by simp [Int.tmod_eq_emod_of_nonneg]
  have l1 : h / top ≤ h := Nat.div_le_self _ _
  have l2 : h % top ≤ h := Nat.mod_le _ _
  refine ⟨by rw [beq_eq_false_iff_ne]; omega, by omega, ?_, ?_, e1, e2, by omega, wraps_u64 _ (Int.natCast_nonneg _) (by omega), wraps_u64 _ (Int.natCast_nonneg _) (by omega)⟩
  · rw [e1]; exact wraps_u64 _ (Int.natCast_nonneg _) (by omega)
  · rw [e2]; exact wraps_u64 _ (Int.natCast_nonneg _) (by omega)
theorem guess_mul {g next : Nat} (hg : g ≤ 4294967295) (hn : next < 4294967296) : ∃ gx : Nat, gx = g * next ∧ IntKind.u64.wrap ((g : Int) * (next : Int)) = (gx : Int) := by
  have : g * next ≤ 4294967295 * 4294967295 := Nat.mul_le_mul hg (by omega)
  refine ⟨g * next, rfl, ?_⟩
  rw [show (g : Int) * (next : Int) = ((g * next : Nat) : Int) from (Int.natCast_mul _ _).symm]
  exact wraps_u64 _ (by omega) (by omega)
theorem guess_sub {g r top : Nat} (hg : 1 ≤ g) (hgb : g ≤ 4294967297) (hr : r < 4294967296) (ht : top < 4294967296) : IntKind.u64.wrap ((g : Int) - 1) = ((g - 1 : Nat) : Int) ∧ IntKind.u64.wrap ((r : Int) + (top : Int)) = ((r + top : Nat) : Int) := by
  refine ⟨?_, ?_⟩
  · rw [wraps_u64 _ (by omega) (by omega)]; omega
  · rw [wraps_u64 _ (by omega) (by omega)]; omega
theorem row_get2 (lo wl : List Nat) (un : Nat) (zs : List Nat) (i x p : Nat) (hx : wl[i]? = some x) (hp : p = lo.length + i) : (lo ++ wl ++ un :: zs)[p]? = some x := by
  have hi : i < wl.length := (List.getElem?_eq_some_iff.1 hx).1
  rw [hp, List.append_assoc, List.getElem?_append_right (by omega), Nat.add_sub_cancel_left, List.getElem?_append_left hi, hx]
theorem natV_two (wl : List Nat) (n a b : Nat) (hl : wl.length = n + 2) (h1 : wl[n + 1]? = some a) (h2 : wl[n]? = some b) : natV wl = natV (wl.take n) + (a * B32 + b) * B32 ^ n := by
  have e1 := natV_take_succ wl (n + 1) a h1
  have e2 := natV_take_succ wl n b h2
  rw [List.take_of_length_le (by omega)] at e1
  rw [e1, e2, Nat.pow_succ]
  grind
theorem three_ring {P B un u1 u2 T : Nat} : T + (u1 * B + u2) * P + un * (P * B * B) = ((un * B + u1) * B + u2) * P + T := by grind
/-- what a round begins with -/
theorem round_of {wl vs : List Nat} {n un u1 u2 top next : Nat} (hw : wl.length = n + 2) (hv : vs.length = n + 2) (okw : okV wl) (okv : okV vs) (h1 : wl[n + 1]? = some u1) (h2 : wl[n]? = some u2) (t1 : vs[n + 1]? = some top) (t2 : vs[n]? = some next) (hun : un < B32) (hlt : natV wl + un * B32 ^ (n + 2) < natV vs * B32) (hbig : 2147483648 ≤ top) :
    RoundK (natV wl + un * B32 ^ (n + 2)) (natV vs) (un * B32 + u1) u2 top next (B32 ^ n) := by
  have ew := natV_two wl n u1 u2 hw h1 h2
  have ev := natV_two vs n top next hv t1 t2
  have lw := natV_lt (okV_take okw n)
  have lv := natV_lt (okV_take okv n)
  rw [List.length_take, Nat.min_eq_left (by omega)] at lw lv
  have b1 : u1 < B32 := okV_get okw h1
  have b2 : u2 < B32 := okV_get okw h2
  have b3 : top < B32 := okV_get okv t1
  have b4 : next < B32 := okV_get okv t2
  have hP : 0 < B32 ^ n := Nat.pow_pos B32_pos
  refine ⟨⟨natV (wl.take n), ?_, lw⟩, ⟨natV (vs.take n), by rw [ev, Nat.add_comm], lv⟩, hlt, hbig, b3, b4, b2, ?_, hP⟩
  · rw [ew, Nat.pow_succ, Nat.pow_succ]; exact three_ring
  · -- un <= top
    have hle : un ≤ top := by
      rcases Nat.lt_or_ge top un with h' | h'
      · exfalso
        have e1 : (top + 1) * B32 ^ (n + 2) ≤ un * B32 ^ (n + 2) := Nat.mul_le_mul_right _ h'
        have e2 : natV vs < (top + 1) * B32 ^ (n + 1) := by
          have e3 : natV vs = natV (vs.take (n + 1)) + top * B32 ^ (n + 1) := by
            have := natV_take_succ vs (n + 1) top t1
            rwa [List.take_of_length_le (by omega)] at this
          have e4 := natV_lt (okV_take okv (n + 1))
          rw [List.length_take, Nat.min_eq_left (by omega)] at e4
          rw [e3, Nat.add_mul, Nat.one_mul]
          omega
        have e5 : natV vs * B32 ≤ (top + 1) * B32 ^ (n + 1) * B32 := Nat.mul_le_mul_right _ (Nat.le_of_lt e2)
        have e6 : (top + 1) * B32 ^ (n + 1) * B32 = (top + 1) * B32 ^ (n + 2) := by rw [Nat.mul_assoc, ← Nat.pow_succ]
        omega
      · exact h'
    have : un * B32 ≤ top * B32 := Nat.mul_le_mul_right _ hle
    omega
theorem big_lt {g : Nat} (h : 4294967295 < g) : (4294967295 : Int) < (g : Int) := by omega
theorem big_nlt {g : Nat} (h : ¬ 4294967295 < g) : ¬ (4294967295 : Int) < (g : Int) := by omega
theorem sub1_lt {g : Nat} (h : 1 ≤ g) : g - 1 < g := by omega
theorem nlt_lt {r : Nat} (h : ¬ 4294967295 < r) : r < 4294967296 := by omega
theorem nlt_cast {a b : Nat} (h : ¬ a < b) : ¬ (a : Int) < (b : Int) := by omega
theorem nlt_B {g : Nat} (h : ¬ 4294967295 < g) : g ≤ B32 - 1 := by show g ≤ 4294967296 - 1; omega
theorem pos_big {t : Nat} (h : 2147483648 ≤ t) : 0 < t := by omega
theorem pos1 {j n p p1 : Nat} (hp : p = j + n) (h1 : p1 = p - 1) (hn : 2 ≤ n) : p1 = j + (n - 1) := by omega
theorem pos2 {j n p p2 : Nat} (hp : p = j + n) (h2 : p2 = p - 2) (hn : 2 ≤ n) : p2 = j + (n - 2) := by omega
set_option maxHeartbeats 8000000 in
theorem knRound (B gu gv gq ov capv lu lq j n un ua ub top next : Nat) (lo wl vs zs qr : List Nat) (w : World) (Q : Exit → Act → World → Prop)
    (hU : VRow w gu (lo ++ wl ++ un :: zs)) (hV : WRow w (some ⟨gv, ov, none⟩) vs) (hq : VRow w gq qr) (hg : gv ≠ gu) (hgq : gq ≠ gu) (hBu : B ≤ gu) (hBq : B ≤ gq) (hlo : lo.length = j) (hwl : wl.length = n) (hvs : vs.length = n) (hqr : qr.length = lq) (hjq : j < lq) (okw : okV wl) (okv : okV vs) (hun : un < B32) (hjn : ((j + n : Nat) : Int) ≤ 100000) (hlu : lu = j + n + 1 + zs.length)
    (hn2 : 2 ≤ n) (h1 : wl[n - 1]? = some ua) (h2 : wl[n - 2]? = some ub) (t1 : vs[n - 1]? = some top) (t2 : vs[n - 2]? = some next) (hbig : 2147483648 ≤ top) (hlt0 : natV wl + un * B32 ^ n < natV vs * B32)
    (u0 u1 u2 u3 u4 u5 u6 u7 u8 u9 u10 u14 u19 u20 u21 u22 u23 u24 u25 u26 u27 u28 u29 u30 u31 u32 u33 u34 u35 u36 u37 u38 u39 u40 u41 u42 u43 u44 u45 u46 u47 u48 u49 u50 u51 u52 u53 u54 u55 u56 u57 u58 u59 u60 u61 u62 u63 u64 u65 u66 u67 u68 u69 u70 u71 u72 u73 u74 u75 u76 u77 u78 u79 u80 u81 u82 u83 u84 u85 u86 u87 u88 u89 u90 u91 u92 u93 u94 u95 u96 u97 u98 u99 u100 u101 u102 u103 u104 u105 u106 u107 u108 u109 u110 u111 u112 u113 u114 u115 u116 u117 u118 u119 u120 u121 u122 u123 u124 u125 u126 u127 u128 u129 u130 u131 u132 u133 u134 u135 u136 u137 u138 u139 u140 u141 u142 u143 u144 u145 u146 u147 u148 u149 u150 u151 u152 u153 u154 u155 u156 u157 u158 u159 u160 u161 u162 u163 u164 u165 u166 u167 u168 u169 u170 u171 u172 u173 u174 u175 u176 u177 u178 u179 u180 u181 u182 u183 u184 u185 u186 u187 u188 u189 u190 u191 u192 u193 u194 u195 u196 u197 u198 u199 u200 u201 u202 u203 u204 u205 u206 u207 u208 u209 u210 u211 u212 u213 u214 u215 u216 u217 u218 u219 u220 u221 u222 u223 u224 u225 u226 u227 u228 u229 u230 u231 u232 u233 u234 u235 u236 u237 u238 u239 u240 u241 u242 u243 u244 u245 u246 u247 u248 u249 u250 u251 u252 u253 u254 u255 u256 u257 u258 u259 u260 u261 u262 u263 u264 u265 u266 u267 u268 u269 u270 u271 u272 : Value)
    (hQ : ∀ (v19 v20 v21 v22 v23 v24 v25 v26 v27 v113 v114 v115 v116 v117 v118 v119 v120 v121 v122 v123 v124 v125 v126 v127 v128 v129 v130 v131 v132 v133 v134 v135 v136 v137 v138 v139 v140 v141 v142 v143 v144 v145 v146 v147 v148 v149 v150 v151 v152 v153 v154 v155 v156 v157 v158 v159 v160 v161 v162 v163 v164 v165 v166 v167 v168 v169 v170 v171 v172 v173 v174 v175 v176 v177 v178 v179 v180 v181 v182 v183 v184 v185 v186 v187 v188 v189 v190 v191 v192 v193 v194 v195 v196 v197 v198 v199 v200 v201 v202 v203 v204 v205 v206 v207 v208 v209 v210 v211 v212 v213 v214 v215 v216 v217 v218 v219 v220 v221 v222 v223 v224 v225 v226 v227 v228 v229 v230 v231 v232 v233 v234 v235 v236 v237 v238 v239 v240 v241 v242 v243 v244 v245 v246 v247 v248 v249 v250 v251 v252 v253 v254 v255 v256 v257 v258 v259 v260 v261 v262 v263 v264 v265 v266 : Value) (wy : World), (∃ A : List Nat, VRow wy gu (lo ++ A ++ 0 :: zs) ∧ A.length = n ∧ okV A ∧ natV A = (natV wl + un * B32 ^ n) % natV vs ∧ VRow wy gq (qr.set j ((natV wl + un * B32 ^ n) / natV vs)) ∧ KTwo B gu gq w wy) → Q .normal ⟨List.toArray (u0 :: u1 :: u2 :: u3 :: u4 :: u5 :: u6 :: u7 :: u8 :: u9 :: u10 :: (.slice (some ⟨gv, ov, none⟩) n capv) :: (.slice (some ⟨gu, 0, none⟩) lu lu) :: (.int .i64 (n : Nat)) :: u14 :: (.slice (some ⟨gq, 0, none⟩) lq lq) :: (.int .u64 (top : Nat)) :: (.int .u64 (next : Nat)) :: (.int .i64 (j : Nat)) :: v19 :: v20 :: v21 :: v22 :: v23 :: v24 :: v25 :: v26 :: v27 :: u28 :: u29 :: u30 :: u31 :: u32 :: u33 :: u34 :: u35 :: u36 :: u37 :: u38 :: u39 :: u40 :: u41 :: u42 :: u43 :: u44 :: u45 :: u46 :: u47 :: u48 :: u49 :: u50 :: u51 :: u52 :: u53 :: u54 :: u55 :: u56 :: u57 :: u58 :: u59 :: u60 :: u61 :: u62 :: u63 :: u64 :: u65 :: u66 :: u67 :: u68 :: u69 :: u70 :: u71 :: u72 :: u73 :: u74 :: u75 :: u76 :: u77 :: u78 :: u79 :: u80 :: u81 :: u82 :: u83 :: u84 :: u85 :: u86 :: u87 :: u88 :: u89 :: u90 :: u91 :: u92 :: u93 :: u94 :: u95 :: u96 :: u97 :: u98 :: u99 :: u100 :: u101 :: u102 :: u103 :: u104 :: u105 :: u106 :: u107 :: u108 :: u109 :: u110 :: u111 :: u112 :: v113 :: v114 :: v115 :: v116 :: v117 :: v118 :: v119 :: v120 :: v121 :: v122 :: v123 :: v124 :: v125 :: v126 :: v127 :: v128 :: v129 :: v130 :: v131 :: v132 :: v133 :: v134 :: v135 :: v136 :: v137 :: v138 :: v139 :: v140 :: v141 :: v142 :: v143 :: v144 :: v145 :: v146 :: v147 :: v148 :: v149 :: v150 :: v151 :: v152 :: v153 :: v154 :: v155 :: v156 :: v157 :: v158 :: v159 :: v160 :: v161 :: v162 :: v163 :: v164 :: v165 :: v166 :: v167 :: v168 :: v169 :: v170 :: v171 :: v172 :: v173 :: v174 :: v175 :: v176 :: v177 :: v178 :: v179 :: v180 :: v181 :: v182 :: v183 :: v184 :: v185 :: v186 :: v187 :: v188 :: v189 :: v190 :: v191 :: v192 :: v193 :: v194 :: v195 :: v196 :: v197 :: v198 :: v199 :: v200 :: v201 :: v202 :: v203 :: v204 :: v205 :: v206 :: v207 :: v208 :: v209 :: v210 :: v211 :: v212 :: v213 :: v214 :: v215 :: v216 :: v217 :: v218 :: v219 :: v220 :: v221 :: v222 :: v223 :: v224 :: v225 :: v226 :: v227 :: v228 :: v229 :: v230 :: v231 :: v232 :: v233 :: v234 :: v235 :: v236 :: v237 :: v238 :: v239 :: v240 :: v241 :: v242 :: v243 :: v244 :: v245 :: v246 :: v247 :: v248 :: v249 :: v250 :: v251 :: v252 :: v253 :: v254 :: v255 :: v256 :: v257 :: v258 :: v259 :: v260 :: v261 :: v262 :: v263 :: v264 :: v265 :: v266 :: u267 :: u268 :: u269 :: u270 :: u271 :: u272 :: []), []⟩ wy) :
    Code.wp Tryz.prog kn22 Q ⟨List.toArray (u0 :: u1 :: u2 :: u3 :: u4 :: u5 :: u6 :: u7 :: u8 :: u9 :: u10 :: (.slice (some ⟨gv, ov, none⟩) n capv) :: (.slice (some ⟨gu, 0, none⟩) lu lu) :: (.int .i64 (n : Nat)) :: u14 :: (.slice (some ⟨gq, 0, none⟩) lq lq) :: (.int .u64 (top : Nat)) :: (.int .u64 (next : Nat)) :: (.int .i64 (j : Nat)) :: u19 :: u20 :: u21 :: u22 :: u23 :: u24 :: u25 :: u26 :: u27 :: u28 :: u29 :: u30 :: u31 :: u32 :: u33 :: u34 :: u35 :: u36 :: u37 :: u38 :: u39 :: u40 :: u41 :: u42 :: u43 :: u44 :: u45 :: u46 :: u47 :: u48 :: u49 :: u50 :: u51 :: u52 :: u53 :: u54 :: u55 :: u56 :: u57 :: u58 :: u59 :: u60 :: u61 :: u62 :: u63 :: u64 :: u65 :: u66 :: u67 :: u68 :: u69 :: u70 :: u71 :: u72 :: u73 :: u74 :: u75 :: u76 :: u77 :: u78 :: u79 :: u80 :: u81 :: u82 :: u83 :: u84 :: u85 :: u86 :: u87 :: u88 :: u89 :: u90 :: u91 :: u92 :: u93 :: u94 :: u95 :: u96 :: u97 :: u98 :: u99 :: u100 :: u101 :: u102 :: u103 :: u104 :: u105 :: u106 :: u107 :: u108 :: u109 :: u110 :: u111 :: u112 :: u113 :: u114 :: u115 :: u116 :: u117 :: u118 :: u119 :: u120 :: u121 :: u122 :: u123 :: u124 :: u125 :: u126 :: u127 :: u128 :: u129 :: u130 :: u131 :: u132 :: u133 :: u134 :: u135 :: u136 :: u137 :: u138 :: u139 :: u140 :: u141 :: u142 :: u143 :: u144 :: u145 :: u146 :: u147 :: u148 :: u149 :: u150 :: u151 :: u152 :: u153 :: u154 :: u155 :: u156 :: u157 :: u158 :: u159 :: u160 :: u161 :: u162 :: u163 :: u164 :: u165 :: u166 :: u167 :: u168 :: u169 :: u170 :: u171 :: u172 :: u173 :: u174 :: u175 :: u176 :: u177 :: u178 :: u179 :: u180 :: u181 :: u182 :: u183 :: u184 :: u185 :: u186 :: u187 :: u188 :: u189 :: u190 :: u191 :: u192 :: u193 :: u194 :: u195 :: u196 :: u197 :: u198 :: u199 :: u200 :: u201 :: u202 :: u203 :: u204 :: u205 :: u206 :: u207 :: u208 :: u209 :: u210 :: u211 :: u212 :: u213 :: u214 :: u215 :: u216 :: u217 :: u218 :: u219 :: u220 :: u221 :: u222 :: u223 :: u224 :: u225 :: u226 :: u227 :: u228 :: u229 :: u230 :: u231 :: u232 :: u233 :: u234 :: u235 :: u236 :: u237 :: u238 :: u239 :: u240 :: u241 :: u242 :: u243 :: u244 :: u245 :: u246 :: u247 :: u248 :: u249 :: u250 :: u251 :: u252 :: u253 :: u254 :: u255 :: u256 :: u257 :: u258 :: u259 :: u260 :: u261 :: u262 :: u263 :: u264 :: u265 :: u266 :: u267 :: u268 :: u269 :: u270 :: u271 :: u272 :: []), []⟩ w := by
  have HQQ := hide hQ; have HU := hide hU; have HV := hide hV; have HLU := hide hlu; have HQR := hide hq; have HUN := hide hun
  obtain ⟨p, hp⟩ : ∃ p, p = j + n := ⟨_, rfl⟩
  obtain ⟨p1, hp1⟩ : ∃ p1, p1 = p - 1 := ⟨_, rfl⟩
  obtain ⟨p2, hp2⟩ : ∃ p2, p2 = p - 2 := ⟨_, rfl⟩
  have hRD : RoundK (natV wl + un * B32 ^ n) (natV vs) (un * B32 + ua) ub top next (B32 ^ (n - 2)) := by
    have hnn : n = (n - 2) + 2 := by omega
    have h3 := round_of (n := n - 2) (wl := wl) (vs := vs) (un := un) (by omega) (by omega) okw okv (by rw [← h1]; congr 1; omega) h2 (by rw [← t1]; congr 1; omega) t2 hun (by rw [← hnn]; exact hlt0) hbig
    rwa [← hnn] at h3
  have hpl : p = (lo ++ wl).length := by rw [List.length_append, hlo, hwl, hp]
  have d0 := hU.cell p un (row_get _ _ _ _ hpl)
  have d1 := hU.cell p1 ua (row_get2 _ _ _ _ _ _ _ h1 (by rw [hlo]; exact pos1 hp hp1 hn2))
  have d2 := hU.cell p2 ub (row_get2 _ _ _ _ _ _ _ h2 (by rw [hlo]; exact pos2 hp hp2 hn2))
  have b1 : ua < 4294967296 := okV_get okw h1
  have b2 : ub < 4294967296 := hRD.ul
  have bu : un < 4294967296 := hun
  have bt : top < 4294967296 := hRD.tl
  have bn : next < 4294967296 := hRD.nl
  obtain ⟨hs, h, hh, x1, x2, x3, x4, x5⟩ := u64_or bu b1
  rw [← hh] at hRD
  obtain ⟨y1, y2, y3, y4, y5, y6, y7, y8, y9⟩ := quo_nums (h := h) (top := top) x5 (pos_big hbig)
  have HG0 := hide (guess_first hRD)
  have hr0 : h % top < 4294967296 := Nat.lt_trans (Nat.mod_lt _ (pos_big hbig)) bt
  generalize h / top = g0 at *
  generalize h % top = r0 at *
  obtain ⟨e1, e2, e3, e4, e5, e6, e7, e8⟩ := p_nums hp hp1 hp2 hn2 hjn hlu
  have HRD := hide hRD; have HB := hide (And.intro b2 (And.intro bt bn)); have HV0 := hide hRD.vpos
  have c0 : w.drew.cell? ⟨gu, p, none⟩ = some (.int .u32 (un : Nat)) := d0
  have c1 : w.drew.cell? ⟨gu, p1, none⟩ = some (.int .u32 (ua : Nat)) := d1
  have c2 : w.drew.drew.cell? ⟨gu, p2, none⟩ = some (.int .u32 (ub : Nat)) := d2
  clear hQ hU hV hlu hq hun hp hp1 hp2 hRD hpl d0 d1 d2 b1 b2 bu bt bn hh x5 h1 h2 t1 t2 hbig hlt0 hn2
  conv => arg 2; whnf
  go_upto_region 22 with fail
  go_cut [19] from 113 to 129 (fun v wx => v = .int .u64 (h : Nat) ∧ wx = w.drew)
  case first =>
    refine wp_drawnV (by kernel_rfl) 273 (by rfl) (by kernel_rfl) (by kernel_rfl) (vals [.slice (some ⟨gu, 0, none⟩) lu lu, .int .i64 (j : Nat), .int .i64 (n : Nat), .int .i64 (p : Nat), .pointer (some ⟨gu, p, none⟩), .int .u32 (un : Nat), .int .u64 (un : Nat), .int .u64 (hs : Nat), .slice (some ⟨gu, 0, none⟩) lu lu, .int .i64 (j : Nat), .int .i64 (n : Nat), .int .i64 (p : Nat), .int .i64 (p1 : Nat), .pointer (some ⟨gu, p1, none⟩), .int .u32 (ua : Nat), .int .u64 (ua : Nat), .int .u64 (h : Nat), .int .u64 (h : Nat)]) ?_ ?_
    · refine ⟨?_, ?_, ?_, ?_, ?_, ?_, ?_, ?_, ?_, ?_, ?_, ?_, ?_, ?_, ?_, ?_, ?_, ?_, trivial⟩
      · intro ac hpre hoff hbef
        have e12 : ac.eval (.tmp 12) = .slice (some ⟨gu, 0, none⟩) lu lu := (hoff 12 (by kernel_rfl)).trans rfl
        have g12 := evT e12
        refine ⟨.slice (some ⟨gu, 0, none⟩) lu lu, ?_, rfl⟩
        clear hpre hoff hbef
        go_simp
      · intro ac hpre hoff hbef
        have e18 : ac.eval (.tmp 18) = .int .i64 (j : Nat) := (hoff 18 (by kernel_rfl)).trans rfl
        have g18 := evT e18
        refine ⟨.int .i64 (j : Nat), ?_, rfl⟩
        clear hpre hoff hbef
        go_simp
      · intro ac hpre hoff hbef
        have e13 : ac.eval (.tmp 13) = .int .i64 (n : Nat) := (hoff 13 (by kernel_rfl)).trans rfl
        have g13 := evT e13
        refine ⟨.int .i64 (n : Nat), ?_, rfl⟩
        clear hpre hoff hbef
        go_simp
      · intro ac hpre hoff hbef
        have e114 : ac.eval (.tmp 114) = .int .i64 (j : Nat) := hpre 1 (by kernel_rfl)
        have g114 := evT e114
        have e115 : ac.eval (.tmp 115) = .int .i64 (n : Nat) := hpre 2 (by kernel_rfl)
        have g115 := evT e115
        refine ⟨.int .i64 (p : Nat), ?_, rfl⟩
        clear hpre hoff hbef
        go_simp
      · intro ac hpre hoff hbef
        have e113 : ac.eval (.tmp 113) = .slice (some ⟨gu, 0, none⟩) lu lu := hpre 0 (by kernel_rfl)
        have g113 := evT e113
        have e116 : ac.eval (.tmp 116) = .int .i64 (p : Nat) := hpre 3 (by kernel_rfl)
        have g116 := evT e116
        refine ⟨.pointer (some ⟨gu, p, none⟩), ?_, rfl⟩
        clear hpre hoff hbef
        go_simp
      · intro ac hpre hoff hbef
        have e117 : ac.eval (.tmp 117) = .pointer (some ⟨gu, p, none⟩) := hpre 4 (by kernel_rfl)
        have g117 := evT e117
        refine ⟨.int .u32 (un : Nat), ?_, rfl⟩
        clear hpre hoff hbef
        go_simp
      · intro ac hpre hoff hbef
        have e118 : ac.eval (.tmp 118) = .int .u32 (un : Nat) := hpre 5 (by kernel_rfl)
        have g118 := evT e118
        refine ⟨.int .u64 (un : Nat), ?_, rfl⟩
        clear hpre hoff hbef
        go_simp
      · intro ac hpre hoff hbef
        have e119 : ac.eval (.tmp 119) = .int .u64 (un : Nat) := hpre 6 (by kernel_rfl)
        have g119 := evT e119
        refine ⟨.int .u64 (hs : Nat), ?_, rfl⟩
        clear hpre hoff hbef
        go_simp
      · intro ac hpre hoff hbef
        have e12 : ac.eval (.tmp 12) = .slice (some ⟨gu, 0, none⟩) lu lu := (hoff 12 (by kernel_rfl)).trans rfl
        have g12 := evT e12
        refine ⟨.slice (some ⟨gu, 0, none⟩) lu lu, ?_, rfl⟩
        clear hpre hoff hbef
        go_simp
      · intro ac hpre hoff hbef
        have e18 : ac.eval (.tmp 18) = .int .i64 (j : Nat) := (hoff 18 (by kernel_rfl)).trans rfl
        have g18 := evT e18
        refine ⟨.int .i64 (j : Nat), ?_, rfl⟩
        clear hpre hoff hbef
        go_simp
      · intro ac hpre hoff hbef
        have e13 : ac.eval (.tmp 13) = .int .i64 (n : Nat) := (hoff 13 (by kernel_rfl)).trans rfl
        have g13 := evT e13
        refine ⟨.int .i64 (n : Nat), ?_, rfl⟩
        clear hpre hoff hbef
        go_simp
      · intro ac hpre hoff hbef
        have e122 : ac.eval (.tmp 122) = .int .i64 (j : Nat) := hpre 9 (by kernel_rfl)
        have g122 := evT e122
        have e123 : ac.eval (.tmp 123) = .int .i64 (n : Nat) := hpre 10 (by kernel_rfl)
        have g123 := evT e123
        refine ⟨.int .i64 (p : Nat), ?_, rfl⟩
        clear hpre hoff hbef
        go_simp
      · intro ac hpre hoff hbef
        have e124 : ac.eval (.tmp 124) = .int .i64 (p : Nat) := hpre 11 (by kernel_rfl)
        have g124 := evT e124
        refine ⟨.int .i64 (p1 : Nat), ?_, rfl⟩
        clear hpre hoff hbef
        go_simp
      · intro ac hpre hoff hbef
        have e121 : ac.eval (.tmp 121) = .slice (some ⟨gu, 0, none⟩) lu lu := hpre 8 (by kernel_rfl)
        have g121 := evT e121
        have e125 : ac.eval (.tmp 125) = .int .i64 (p1 : Nat) := hpre 12 (by kernel_rfl)
        have g125 := evT e125
        refine ⟨.pointer (some ⟨gu, p1, none⟩), ?_, rfl⟩
        clear hpre hoff hbef
        go_simp
      · intro ac hpre hoff hbef
        have e126 : ac.eval (.tmp 126) = .pointer (some ⟨gu, p1, none⟩) := hpre 13 (by kernel_rfl)
        have g126 := evT e126
        refine ⟨.int .u32 (ua : Nat), ?_, rfl⟩
        clear hpre hoff hbef
        go_simp
      · intro ac hpre hoff hbef
        have e127 : ac.eval (.tmp 127) = .int .u32 (ua : Nat) := hpre 14 (by kernel_rfl)
        have g127 := evT e127
        refine ⟨.int .u64 (ua : Nat), ?_, rfl⟩
        clear hpre hoff hbef
        go_simp
      · intro ac hpre hoff hbef
        have e120 : ac.eval (.tmp 120) = .int .u64 (hs : Nat) := hpre 7 (by kernel_rfl)
        have g120 := evT e120
        have e128 : ac.eval (.tmp 128) = .int .u64 (ua : Nat) := hpre 15 (by kernel_rfl)
        have g128 := evT e128
        refine ⟨.int .u64 (h : Nat), ?_, rfl⟩
        clear hpre hoff hbef
        go_simp
      · intro ac hpre hoff hbef
        have e129 : ac.eval (.tmp 129) = .int .u64 (h : Nat) := hpre 16 (by kernel_rfl)
        have g129 := evT e129
        refine ⟨.int .u64 (h : Nat), ?_, rfl⟩
        clear hpre hoff hbef
        go_simp
    · intro ac hdf hsz hoff hall
      have h19 : ac.tmps.getD 19 undef = .int .u64 (h : Nat) := hall 17 (by decide)
      have hmix := mix_eq ([false, false, false, false, false, false, false, false, false, false, false, false, false, false, false, false, false, false, false, true, false, false, false, false, false, false, false, false, false, false, false, false, false, false, false, false, false, false, false, false, false, false, false, false, false, false, false, false, false, false, false, false, false, false, false, false, false, false, false, false, false, false, false, false, false, false, false, false, false, false, false, false, false, false, false, false, false, false, false, false, false, false, false, false, false, false, false, false, false, false, false, false, false, false, false, false, false, false, false, false, false, false, false, false, false, false, false, false, false, false, false, false, false, true, true, true, true, true, true, true, true, true, true, true, true, true, true, true, true, true, false, false, false, false, false, false, false, false, false, false, false, false, false, false, false, false, false, false, false, false, false, false, false, false, false, false, false, false, false, false, false, false, false, false, false, false, false, false, false, false, false, false, false, false, false, false, false, false, false, false, false, false, false, false, false, false, false, false, false, false, false, false, false, false, false, false, false, false, false, false, false, false, false, false, false, false, false, false, false, false, false, false, false, false, false, false, false, false, false, false, false, false, false, false, false, false, false, false, false, false, false, false, false, false, false, false, false, false, false, false, false, false, false, false, false, false, false, false, false, false, false, false, false, false, false, false, false, false, false, false, false, false, false, false, false, false, false, false, false, false, false, false, false]) rfl rfl hsz hdf (by kernel_rfl) hoff
      clear hoff hall hsz hdf
      simp only [mixL, Nat.reduceAdd, h19] at hmix
      rw [hmix]
      clear hmix
      go_wp2_with fail
      go_meet
      exact ⟨rfl, rfl⟩
  case rest =>
  obtain ⟨rfl, hwc⟩ := hcut
  have hwc2 := hwc.symm
  subst hwc2
  clear hwc c0 c1
  go_upto_region 23 with fail
  go_cut [20, 21] from 130 to 135 (fun v v' wx => v = .int .u64 (g0 : Nat) ∧ v' = .int .u64 (r0 : Nat) ∧ wx = w.drew.drew)
  case first =>
    refine wp_drawnV (by kernel_rfl) 273 (by rfl) (by kernel_rfl) (by kernel_rfl) (vals [.int .u64 (h : Nat), .int .u64 (top : Nat), .int .u64 (g0 : Nat), .int .u64 (h : Nat), .int .u64 (top : Nat), .int .u64 (r0 : Nat), .int .u64 (g0 : Nat), .int .u64 (r0 : Nat)]) ?_ ?_
    · refine ⟨?_, ?_, ?_, ?_, ?_, ?_, ?_, ?_, trivial⟩
      · intro ac hpre hoff hbef
        have e19 : ac.eval (.tmp 19) = .int .u64 (h : Nat) := (hoff 19 (by kernel_rfl)).trans rfl
        have g19 := evT e19
        refine ⟨.int .u64 (h : Nat), ?_, rfl⟩
        clear hpre hoff hbef
        go_simp
      · intro ac hpre hoff hbef
        have e16 : ac.eval (.tmp 16) = .int .u64 (top : Nat) := (hoff 16 (by kernel_rfl)).trans rfl
        have g16 := evT e16
        refine ⟨.int .u64 (top : Nat), ?_, rfl⟩
        clear hpre hoff hbef
        go_simp
      · intro ac hpre hoff hbef
        have e130 : ac.eval (.tmp 130) = .int .u64 (h : Nat) := hpre 0 (by kernel_rfl)
        have g130 := evT e130
        have e131 : ac.eval (.tmp 131) = .int .u64 (top : Nat) := hpre 1 (by kernel_rfl)
        have g131 := evT e131
        refine ⟨.int .u64 (g0 : Nat), ?_, rfl⟩
        clear hpre hoff hbef
        go_simp
      · intro ac hpre hoff hbef
        have e19 : ac.eval (.tmp 19) = .int .u64 (h : Nat) := (hoff 19 (by kernel_rfl)).trans rfl
        have g19 := evT e19
        refine ⟨.int .u64 (h : Nat), ?_, rfl⟩
        clear hpre hoff hbef
        go_simp
      · intro ac hpre hoff hbef
        have e16 : ac.eval (.tmp 16) = .int .u64 (top : Nat) := (hoff 16 (by kernel_rfl)).trans rfl
        have g16 := evT e16
        refine ⟨.int .u64 (top : Nat), ?_, rfl⟩
        clear hpre hoff hbef
        go_simp
      · intro ac hpre hoff hbef
        have e133 : ac.eval (.tmp 133) = .int .u64 (h : Nat) := hpre 3 (by kernel_rfl)
        have g133 := evT e133
        have e134 : ac.eval (.tmp 134) = .int .u64 (top : Nat) := hpre 4 (by kernel_rfl)
        have g134 := evT e134
        refine ⟨.int .u64 (r0 : Nat), ?_, rfl⟩
        clear hpre hoff hbef
        go_simp
      · intro ac hpre hoff hbef
        have e132 : ac.eval (.tmp 132) = .int .u64 (g0 : Nat) := hpre 2 (by kernel_rfl)
        have g132 := evT e132
        refine ⟨.int .u64 (g0 : Nat), ?_, rfl⟩
        clear hpre hoff hbef
        go_simp
      · intro ac hpre hoff hbef
        have e135 : ac.eval (.tmp 135) = .int .u64 (r0 : Nat) := hpre 5 (by kernel_rfl)
        have g135 := evT e135
        refine ⟨.int .u64 (r0 : Nat), ?_, rfl⟩
        clear hpre hoff hbef
        go_simp
    · intro ac hdf hsz hoff hall
      have h20 : ac.tmps.getD 20 undef = .int .u64 (g0 : Nat) := hall 6 (by decide)
      have h21 : ac.tmps.getD 21 undef = .int .u64 (r0 : Nat) := hall 7 (by decide)
      have hmix := mix_eq ([false, false, false, false, false, false, false, false, false, false, false, false, false, false, false, false, false, false, false, false, true, true, false, false, false, false, false, false, false, false, false, false, false, false, false, false, false, false, false, false, false, false, false, false, false, false, false, false, false, false, false, false, false, false, false, false, false, false, false, false, false, false, false, false, false, false, false, false, false, false, false, false, false, false, false, false, false, false, false, false, false, false, false, false, false, false, false, false, false, false, false, false, false, false, false, false, false, false, false, false, false, false, false, false, false, false, false, false, false, false, false, false, false, false, false, false, false, false, false, false, false, false, false, false, false, false, false, false, false, false, true, true, true, true, true, true, false, false, false, false, false, false, false, false, false, false, false, false, false, false, false, false, false, false, false, false, false, false, false, false, false, false, false, false, false, false, false, false, false, false, false, false, false, false, false, false, false, false, false, false, false, false, false, false, false, false, false, false, false, false, false, false, false, false, false, false, false, false, false, false, false, false, false, false, false, false, false, false, false, false, false, false, false, false, false, false, false, false, false, false, false, false, false, false, false, false, false, false, false, false, false, false, false, false, false, false, false, false, false, false, false, false, false, false, false, false, false, false, false, false, false, false, false, false, false, false, false, false, false, false, false, false, false, false, false, false, false, false, false, false, false, false, false]) rfl rfl hsz hdf (by kernel_rfl) hoff
      clear hoff hall hsz hdf
      simp only [mixL, Nat.reduceAdd, h20, h21] at hmix
      rw [hmix]
      clear hmix
      go_wp2_with fail
      go_meet
      exact ⟨rfl, rfl, rfl⟩
  case rest =>
  obtain ⟨rfl, rfl, hwc⟩ := hcut
  have hwc2 := hwc.symm
  subst hwc2
  clear hwc y1 y2 y3 y4 y5 y6 y7 y8 y9
  go_upto_block 2 with fail
  go_cut [20, 21] from 136 to 161 (fun v _ wx => ∃ g : Nat, v = .int .u64 g ∧ TakenK (natV wl + un * B32 ^ n) (natV vs) g ∧ wx = w.drew.drew)
  case first =>
    go_wp2
    go_loopw [20, 21] (fun v v' wr => ∃ g r : Nat, v = .int .u64 g ∧ v' = .int .u64 r ∧ r < 4294967296 ∧ Hid (GuessK (natV wl + un * B32 ^ n) (natV vs) h top g r) ∧ wr = w.drew.drew) (fun v _ _ => (intOf v).toNat)
    case atStart => exact ⟨g0, r0, rfl, rfl, hr0, HG0, rfl⟩
    case round =>
      obtain ⟨g, r, rfl, rfl, hr, hG, hwr⟩ := hrel
      have hwr2 := hwr.symm
      subst hwr2
      clear hwr HG0 hr0
      obtain ⟨b2, bt, bn⟩ := unhide HB
      obtain ⟨z1, z2, z3, z4, z5, z6⟩ := u64_or hr b2
      have hgle : g ≤ 4294967297 := (unhide hG).le
      by_cases hA : 4294967295 < g
      · obtain ⟨hg1, hG2⟩ := guess_less (unhide HRD) (unhide hG) (.inl hA)
        obtain ⟨v1, v2⟩ := guess_sub hg1 hgle hr bt
        have HM := hide (sub1_lt hg1)
        have q1 := big_lt hA
        generalize g - 1 = g1 at *
        generalize r + top = r1 at *
        have HG2 := hide hG2
        by_cases hbr : 4294967295 < r1
        · have q2 := big_lt hbr
          have HTK := hide (guess_broken (unhide HRD) hG2 hbr)
          clear hA hbr hG2 z2 z3 z4 z5 z6 b2 bt bn hg1 hgle
          go_wp2
          go_meet
          exact ⟨g1, rfl, unhide HTK, rfl⟩
        · have q2 := big_nlt hbr
          have HR1 := hide (nlt_lt hbr)
          clear hA hbr hG2 z2 z3 z4 z5 z6 b2 bt bn hg1 hgle
          go_wp2
          go_roundw
          case rel => exact ⟨g1, r1, rfl, rfl, unhide HR1, HG2, by first | rfl | trivial⟩
          case measure => simpa [intOf] using unhide HM
      · have q1 := big_nlt hA
        obtain ⟨gx, hgx, v0⟩ := guess_mul (g := g) (next := next) (Nat.le_of_not_lt hA) bn
        by_cases hC : z2 < gx
        · have hC2 : r * B32 + ub < g * next := by rw [← hgx, ← z3]; exact hC
          obtain ⟨hg1, hG2⟩ := guess_less (unhide HRD) (unhide hG) (.inr hC2)
          obtain ⟨v1, v2⟩ := guess_sub hg1 hgle hr bt
          have HM := hide (sub1_lt hg1)
          have q3 : (z2 : Int) < (gx : Int) := Int.ofNat_lt.2 hC
          generalize g - 1 = g1 at *
          generalize r + top = r1 at *
          have HG2 := hide hG2
          by_cases hbr : 4294967295 < r1
          · have q2 := big_lt hbr
            have HTK := hide (guess_broken (unhide HRD) hG2 hbr)
            clear hA hbr hG2 hC hC2 hgx z3 b2 bt bn hg1 hgle
            go_wp2
            go_meet
            exact ⟨g1, rfl, unhide HTK, rfl⟩
          · have q2 := big_nlt hbr
            have HR1 := hide (nlt_lt hbr)
            clear hA hbr hG2 hC hC2 hgx z3 b2 bt bn hg1 hgle
            go_wp2
            go_roundw
            case rel => exact ⟨g1, r1, rfl, rfl, unhide HR1, HG2, by first | rfl | trivial⟩
            case measure => simpa [intOf] using unhide HM
        · have hC2 : g * next ≤ r * B32 + ub := by rw [← hgx, ← z3]; exact Nat.le_of_not_lt hC
          have HTK := hide (guess_taken (unhide HRD) (unhide hG) (nlt_B hA) hC2)
          have q3 := nlt_cast hC
          clear hA hC hC2 hgx z3 b2 bt bn hgle
          go_wp2
          go_meet
          exact ⟨g, rfl, unhide HTK, rfl⟩
  case rest =>
  obtain ⟨g, rfl, hTK, hwc⟩ := hcut
  have hwc2 := hwc.symm
  subst hwc2
  clear hwc
  have HK9 := hide ((KTwo.refl B gu gq w).drew.drew)
  apply_assumption
  refine knTake B gu gv gq ov capv lu lq j n g un lo wl vs zs qr w.drew.drew _ (unhide HU) (unhide HV) (unhide HQR) hg hgq hBu hBq hlo hwl hvs hqr hjq okw okv (unhide HUN) hjn (unhide HLU) hTK (unhide HV0) _ _ _ _ _ _ _ _ _ _ _ _ _ _ _ _ _ _ _ _ _ _ _ _ _ _ _ _ _ _ _ _ _ _ _ _ _ _ _ _ _ _ _ _ _ _ _ _ _ _ _ _ _ _ _ _ _ _ _ _ _ _ _ _ _ _ _ _ _ _ _ _ _ _ _ _ _ _ _ _ _ _ _ _ _ _ _ _ _ _ _ _ _ _ _ _ _ _ _ _ _ _ _ _ _ _ _ _ _ _ _ _ _ _ _ _ _ _ _ _ _ _ _ _ _ _ _ _ _ _ _ _ _ _ _ _ _ _ _ _ _ _ _ _ _ _ _ _ _ _ _ _ _ _ _ _ _ _ _ _ _ _ _ _ _ _ _ _ _ _ _ _ _ _ _ _ _ _ _ _ _ _ _ _ _ _ _ _ _ _ _ _ _ _ _ _ _ _ _ _ _ _ _ _ _ _ _ _ _ _ _ _ _ _ _ _ _ _ _ _ _ _ _ _ _ _ _ _ _ _ _ _ _ _ _ _ _ _ _ _ _ _ _ _ _ _ _ _ _ _ _ _ _ _ _ _ _ _ _ _ _ _ _ _ _ _ _ ?_
  intro y20 y22 y23 y24 y25 y26 y27 y162 y163 y164 y165 y166 y167 y168 y169 y170 y171 y172 y173 y174 y175 y176 y177 y178 y179 y180 y181 y182 y183 y184 y185 y186 y187 y188 y189 y190 y191 y192 y193 y194 y195 y196 y197 y198 y199 y200 y201 y202 y203 y204 y205 y206 y207 y208 y209 y210 y211 y212 y213 y214 y215 y216 y217 y218 y219 y220 y221 y222 y223 y224 y225 y226 y227 y228 y229 y230 y231 y232 y233 y234 y235 y236 y237 y238 y239 y240 y241 y242 y243 y244 y245 y246 y247 y248 y249 y250 y251 y252 y253 y254 y255 y256 y257 y258 y259 y260 y261 y262 y263 y264 y265 y266
  intro wy hA
  obtain ⟨A, a1, a2, a3, a4, a5, a6⟩ := hA
  refine unhide HQQ _ _ _ _ _ _ _ _ _ _ _ _ _ _ _ _ _ _ _ _ _ _ _ _ _ _ _ _ _ _ _ _ _ _ _ _ _ _ _ _ _ _ _ _ _ _ _ _ _ _ _ _ _ _ _ _ _ _ _ _ _ _ _ _ _ _ _ _ _ _ _ _ _ _ _ _ _ _ _ _ _ _ _ _ _ _ _ _ _ _ _ _ _ _ _ _ _ _ _ _ _ _ _ _ _ _ _ _ _ _ _ _ _ _ _ _ _ _ _ _ _ _ _ _ _ _ _ _ _ _ _ _ _ _ _ _ _ _ _ _ _ _ _ _ _ _ _ _ _ _ _ _ _ _ _ _ _ _ _ _ _ _ _ _ ?_
  exact ⟨A, a1, a2, a3, a4, a5, (unhide HK9).trans a6⟩
end Go.Proofs.YtckkhpegimkefaaGreatDoor
