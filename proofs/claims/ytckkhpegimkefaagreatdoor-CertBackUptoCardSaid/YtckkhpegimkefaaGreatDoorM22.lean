/- Division word by word: behind what was taken away. (Made by wip/drafts/genKn.py.) -/
import Derived.Test.YtckkhpegimkefaaGreatDoorM21
import Derived.Deep.CutBlock
namespace Go.Proofs.YtckkhpegimkefaaGreatDoor
open Go.RowKit
set_option linter.unusedVariables false
set_option linter.unusedSimpArgs false
set_option maxRecDepth 1000000

/-- two blocks alone have changed -/
structure KTwo (B g h : Nat) (w w' : World) : Prop where
  b : Below B w w'
  o : ∀ k, k ≠ g → k ≠ h → w'.heap[k]? = w.heap[k]?
  z : w'.heap.size = w.heap.size
theorem KTwo.refl (B g h : Nat) (w : World) : KTwo B g h w w := ⟨Below.refl _ _, fun _ _ _ => rfl, rfl⟩
theorem KTwo.drew {B g h : Nat} {w w' : World} (k : KTwo B g h w w') : KTwo B g h w w'.drew := ⟨⟨k.b.1, k.b.2, k.b.3, k.b.4, k.b.5⟩, k.o, k.z⟩
theorem KTwo.set1 {B g h : Nat} {w w' : World} (k : KTwo B g h w w') (hB : B ≤ g) (i : Nat) (v : Value) : KTwo B g h w (w'.setCell ⟨g, i, none⟩ v) := ⟨k.b.setCell (p := ⟨g, i, none⟩) hB v, fun q h1 h2 => by rw [← k.o q h1 h2]; simp [World.setCell, Array.getElem?_modify, Ne.symm h1], by rw [← k.z]; simp⟩
theorem KTwo.set2 {B g h : Nat} {w w' : World} (k : KTwo B g h w w') (hB : B ≤ h) (i : Nat) (v : Value) : KTwo B g h w (w'.setCell ⟨h, i, none⟩ v) := ⟨k.b.setCell (p := ⟨h, i, none⟩) hB v, fun q h1 h2 => by rw [← k.o q h1 h2]; simp [World.setCell, Array.getElem?_modify, Ne.symm h2], by rw [← k.z]; simp⟩
theorem KTwo.trans {B g h : Nat} {w w' w'' : World} (k : KTwo B g h w w') (l : KTwo B g h w' w'') : KTwo B g h w w'' := ⟨k.b.trans l.b, fun q h1 h2 => (l.o q h1 h2).trans (k.o q h1 h2), l.z.trans k.z⟩
theorem KTwo.one {B g h : Nat} {w w' w'' : World} (k : KTwo B g h w w') (hB : B ≤ g) (l : KOnly g w' w'') : KTwo B g h w w'' := ⟨k.b.trans (l.b.mono hB), fun q h1 h2 => (l.o q h1).trans (k.o q h1 h2), l.z.trans k.z⟩
theorem VRow.only {g q : Nat} {w w' : World} {row : List Nat} (h : VRow w q row) (k : KOnly g w w') (hq : q ≠ g) : VRow w' q row := by
  unfold VRow at *; rw [k.o q hq]; exact h
theorem VRow.setO {g q i : Nat} {w : World} {row : List Nat} {v : Value} (h : VRow w q row) (hq : q ≠ g) : VRow (w.setCell ⟨g, i, none⟩ v) q row := by
  unfold VRow at *; rw [← h]; simp [World.setCell, Array.getElem?_modify, Ne.symm hq]
theorem WRow.two {B g h gv ov : Nat} {w w' : World} {vs : List Nat} (r : WRow w (some ⟨gv, ov, none⟩) vs) (k : KTwo B g h w w') (hg : gv ≠ g) (hh : gv ≠ h) : WRow w' (some ⟨gv, ov, none⟩) vs := by
  rcases r with r | ⟨g', off, e, hlt, hc⟩
  · exact .inl r
  · refine .inr ⟨g', off, e, by rw [k.z]; exact hlt, fun i x hi => ?_⟩
    have e2 : gv = g' := by simp at e; exact e.1
    have := hc i x hi
    unfold World.cell? at *
    rw [k.o g' (by rw [← e2]; exact hg) (by rw [← e2]; exact hh)]
    exact this
theorem right_nums {un c d g : Nat} (hu : un < 4294967296) (h : un = c + d) (hg : g < 4294967296) : ∃ s1 : Nat, IntKind.u64.wrap (un : Int) = (un : Int) ∧ IntKind.u64.wrap ((un : Int) - (c : Int)) = (s1 : Int) ∧ IntKind.u64.wrap ((s1 : Int) - (d : Int)) = 0 ∧ (g : Int) % 4294967296 = (g : Int) := by
  refine ⟨un - c, wraps_u64 _ (by omega) (by omega), ?_, ?_, by omega⟩
  · rw [wraps_u64 _ (by omega) (by omega)]; omega
  · rw [wraps_u64 _ (by omega) (by omega)]; omega
theorem back_nums {un c d g : Nat} (hu : un < 4294967296) (h : un + 1 = c + d) (hd : d ≤ 1) (hg : g < 4294967296) (hg1 : 1 ≤ g) : ∃ s1 g1 : Nat, g1 = g - 1 ∧ IntKind.u64.wrap (un : Int) = (un : Int) ∧ IntKind.u64.wrap ((un : Int) - (c : Int)) = (s1 : Int) ∧ IntKind.u64.wrap ((s1 : Int) - (d : Int)) = 18446744073709551615 ∧ IntKind.u64.wrap ((g : Int) - 1) = (g1 : Int) ∧ (g1 : Int) % 4294967296 = (g1 : Int) := by
  rcases (show d = 0 ∨ d = 1 by omega) with e | e
  · subst e
    refine ⟨18446744073709551615, g - 1, rfl, wraps_u64 _ (by omega) (by omega), ?_, wraps_u64 _ (by omega) (by omega), ?_, by omega⟩
    · rw [wrap_u64_mod]; omega
    · rw [wraps_u64 _ (by omega) (by omega)]; omega
  · subst e
    refine ⟨0, g - 1, rfl, wraps_u64 _ (by omega) (by omega), ?_, ?_, ?_, by omega⟩
    · rw [wrap_u64_mod]; omega
    · rw [wrap_u64_mod]; decide
    · rw [wraps_u64 _ (by omega) (by omega)]; omega
theorem j_nums {j n lu lq z p : Nat} (hp : p = j + n) (hl : ((j + n : Nat) : Int) ≤ 100000) (hlu : lu = j + n + 1 + z) (hq : j < lq) : IntKind.i64.wrap ((j : Int) + (n : Int)) = (p : Int) ∧ wrap64 ((j : Int) + (n : Int)) = (p : Int) ∧ (p : Int) < (lu : Int) ∧ (j : Int) < (lq : Int) := by
  have h1 : IntKind.i64.wrap ((j : Int) + (n : Int)) = (p : Int) := by rw [IntKind.wrap_i64]; omega
  exact ⟨h1, by rw [← h1, IntKind.wrap_i64]; unfold wrap64; omega, by omega, by omega⟩
theorem natV_pos_lt {vs : List Nat} {n : Nat} (h : okV vs) (hl : vs.length = n) : natV vs < B32 ^ n := by rw [← hl]; exact natV_lt h
set_option maxHeartbeats 8000000 in
theorem knTail (B gu gv gq ov capv lu lq j n g c d un : Nat) (lo R wl vs zs qr : List Nat) (w : World) (Q : Exit → Act → World → Prop)
    (hU : VRow w gu (lo ++ R ++ un :: zs)) (hV : WRow w (some ⟨gv, ov, none⟩) vs) (hq : VRow w gq qr) (hg : gv ≠ gu) (hgq : gq ≠ gu) (hBu : B ≤ gu) (hBq : B ≤ gq) (hlo : lo.length = j) (hRl : R.length = n) (hvs : vs.length = n) (hqr : qr.length = lq) (hjq : j < lq) (okR : okV R) (okv : okV vs) (hun : un < B32) (hd : d ≤ 1) (hjn : ((j + n : Nat) : Int) ≤ 100000) (hlu : lu = j + n + 1 + zs.length)
    (hT : TakenK (natV wl + un * B32 ^ n) (natV vs) g) (hv0 : 0 < natV vs) (hS : natV R + g * natV vs = natV wl + (c + d) * B32 ^ n)
    (u0 u1 u2 u3 u4 u5 u6 u7 u8 u9 u10 u14 u16 u17 u19 u21 u24 u25 u26 u27 u28 u29 u30 u31 u32 u33 u34 u35 u36 u37 u38 u39 u40 u41 u42 u43 u44 u45 u46 u47 u48 u49 u50 u51 u52 u53 u54 u55 u56 u57 u58 u59 u60 u61 u62 u63 u64 u65 u66 u67 u68 u69 u70 u71 u72 u73 u74 u75 u76 u77 u78 u79 u80 u81 u82 u83 u84 u85 u86 u87 u88 u89 u90 u91 u92 u93 u94 u95 u96 u97 u98 u99 u100 u101 u102 u103 u104 u105 u106 u107 u108 u109 u110 u111 u112 u113 u114 u115 u116 u117 u118 u119 u120 u121 u122 u123 u124 u125 u126 u127 u128 u129 u130 u131 u132 u133 u134 u135 u136 u137 u138 u139 u140 u141 u142 u143 u144 u145 u146 u147 u148 u149 u150 u151 u152 u153 u154 u155 u156 u157 u158 u159 u160 u161 u162 u163 u164 u165 u166 u167 u168 u169 u170 u171 u172 u173 u174 u175 u176 u177 u178 u179 u180 u181 u182 u183 u184 u185 u186 u187 u188 u189 u190 u191 u192 u193 u194 u195 u196 u197 u198 u199 u200 u201 u202 u203 u204 u205 u206 u207 u208 u209 u210 u211 u212 u213 u214 u215 u216 u217 u218 u219 u220 u221 u222 u223 u224 u225 u226 u227 u228 u229 u230 u231 u232 u233 u234 u235 u236 u237 u238 u239 u240 u241 u242 u243 u244 u245 u246 u247 u248 u249 u250 u251 u252 u253 u254 u255 u256 u257 u258 u259 u260 u261 u262 u263 u264 u265 u266 u267 u268 u269 u270 u271 u272 : Value)
    (hQ : ∀ (v20 v22 v26 v27 v200 v201 v202 v203 v204 v205 v206 v207 v208 v209 v210 v211 v212 v213 v214 v215 v216 v217 v218 v219 v220 v221 v222 v223 v224 v225 v226 v227 v228 v229 v230 v231 v232 v233 v234 v235 v236 v237 v238 v239 v240 v241 v242 v243 v244 v245 v246 v247 v248 v249 v250 v251 v252 v253 v254 v255 v256 v257 v258 v259 v260 v261 v262 v263 v264 v265 v266 : Value) (wy : World), (∃ A : List Nat, VRow wy gu (lo ++ A ++ 0 :: zs) ∧ A.length = n ∧ okV A ∧ natV A = (natV wl + un * B32 ^ n) % natV vs ∧ VRow wy gq (qr.set j ((natV wl + un * B32 ^ n) / natV vs)) ∧ KTwo B gu gq w wy) → Q .normal ⟨List.toArray (u0 :: u1 :: u2 :: u3 :: u4 :: u5 :: u6 :: u7 :: u8 :: u9 :: u10 :: (.slice (some ⟨gv, ov, none⟩) n capv) :: (.slice (some ⟨gu, 0, none⟩) lu lu) :: (.int .i64 (n : Nat)) :: u14 :: (.slice (some ⟨gq, 0, none⟩) lq lq) :: u16 :: u17 :: (.int .i64 (j : Nat)) :: u19 :: v20 :: u21 :: v22 :: (.int .u64 (d : Nat)) :: u24 :: u25 :: v26 :: v27 :: u28 :: u29 :: u30 :: u31 :: u32 :: u33 :: u34 :: u35 :: u36 :: u37 :: u38 :: u39 :: u40 :: u41 :: u42 :: u43 :: u44 :: u45 :: u46 :: u47 :: u48 :: u49 :: u50 :: u51 :: u52 :: u53 :: u54 :: u55 :: u56 :: u57 :: u58 :: u59 :: u60 :: u61 :: u62 :: u63 :: u64 :: u65 :: u66 :: u67 :: u68 :: u69 :: u70 :: u71 :: u72 :: u73 :: u74 :: u75 :: u76 :: u77 :: u78 :: u79 :: u80 :: u81 :: u82 :: u83 :: u84 :: u85 :: u86 :: u87 :: u88 :: u89 :: u90 :: u91 :: u92 :: u93 :: u94 :: u95 :: u96 :: u97 :: u98 :: u99 :: u100 :: u101 :: u102 :: u103 :: u104 :: u105 :: u106 :: u107 :: u108 :: u109 :: u110 :: u111 :: u112 :: u113 :: u114 :: u115 :: u116 :: u117 :: u118 :: u119 :: u120 :: u121 :: u122 :: u123 :: u124 :: u125 :: u126 :: u127 :: u128 :: u129 :: u130 :: u131 :: u132 :: u133 :: u134 :: u135 :: u136 :: u137 :: u138 :: u139 :: u140 :: u141 :: u142 :: u143 :: u144 :: u145 :: u146 :: u147 :: u148 :: u149 :: u150 :: u151 :: u152 :: u153 :: u154 :: u155 :: u156 :: u157 :: u158 :: u159 :: u160 :: u161 :: u162 :: u163 :: u164 :: u165 :: u166 :: u167 :: u168 :: u169 :: u170 :: u171 :: u172 :: u173 :: u174 :: u175 :: u176 :: u177 :: u178 :: u179 :: u180 :: u181 :: u182 :: u183 :: u184 :: u185 :: u186 :: u187 :: u188 :: u189 :: u190 :: u191 :: u192 :: u193 :: u194 :: u195 :: u196 :: u197 :: u198 :: u199 :: v200 :: v201 :: v202 :: v203 :: v204 :: v205 :: v206 :: v207 :: v208 :: v209 :: v210 :: v211 :: v212 :: v213 :: v214 :: v215 :: v216 :: v217 :: v218 :: v219 :: v220 :: v221 :: v222 :: v223 :: v224 :: v225 :: v226 :: v227 :: v228 :: v229 :: v230 :: v231 :: v232 :: v233 :: v234 :: v235 :: v236 :: v237 :: v238 :: v239 :: v240 :: v241 :: v242 :: v243 :: v244 :: v245 :: v246 :: v247 :: v248 :: v249 :: v250 :: v251 :: v252 :: v253 :: v254 :: v255 :: v256 :: v257 :: v258 :: v259 :: v260 :: v261 :: v262 :: v263 :: v264 :: v265 :: v266 :: u267 :: u268 :: u269 :: u270 :: u271 :: u272 :: []), []⟩ wy) :
    Code.wp Tryz.prog kn37 Q ⟨List.toArray (u0 :: u1 :: u2 :: u3 :: u4 :: u5 :: u6 :: u7 :: u8 :: u9 :: u10 :: (.slice (some ⟨gv, ov, none⟩) n capv) :: (.slice (some ⟨gu, 0, none⟩) lu lu) :: (.int .i64 (n : Nat)) :: u14 :: (.slice (some ⟨gq, 0, none⟩) lq lq) :: u16 :: u17 :: (.int .i64 (j : Nat)) :: u19 :: (.int .u64 (g : Nat)) :: u21 :: (.int .u64 (c : Nat)) :: (.int .u64 (d : Nat)) :: u24 :: u25 :: u26 :: u27 :: u28 :: u29 :: u30 :: u31 :: u32 :: u33 :: u34 :: u35 :: u36 :: u37 :: u38 :: u39 :: u40 :: u41 :: u42 :: u43 :: u44 :: u45 :: u46 :: u47 :: u48 :: u49 :: u50 :: u51 :: u52 :: u53 :: u54 :: u55 :: u56 :: u57 :: u58 :: u59 :: u60 :: u61 :: u62 :: u63 :: u64 :: u65 :: u66 :: u67 :: u68 :: u69 :: u70 :: u71 :: u72 :: u73 :: u74 :: u75 :: u76 :: u77 :: u78 :: u79 :: u80 :: u81 :: u82 :: u83 :: u84 :: u85 :: u86 :: u87 :: u88 :: u89 :: u90 :: u91 :: u92 :: u93 :: u94 :: u95 :: u96 :: u97 :: u98 :: u99 :: u100 :: u101 :: u102 :: u103 :: u104 :: u105 :: u106 :: u107 :: u108 :: u109 :: u110 :: u111 :: u112 :: u113 :: u114 :: u115 :: u116 :: u117 :: u118 :: u119 :: u120 :: u121 :: u122 :: u123 :: u124 :: u125 :: u126 :: u127 :: u128 :: u129 :: u130 :: u131 :: u132 :: u133 :: u134 :: u135 :: u136 :: u137 :: u138 :: u139 :: u140 :: u141 :: u142 :: u143 :: u144 :: u145 :: u146 :: u147 :: u148 :: u149 :: u150 :: u151 :: u152 :: u153 :: u154 :: u155 :: u156 :: u157 :: u158 :: u159 :: u160 :: u161 :: u162 :: u163 :: u164 :: u165 :: u166 :: u167 :: u168 :: u169 :: u170 :: u171 :: u172 :: u173 :: u174 :: u175 :: u176 :: u177 :: u178 :: u179 :: u180 :: u181 :: u182 :: u183 :: u184 :: u185 :: u186 :: u187 :: u188 :: u189 :: u190 :: u191 :: u192 :: u193 :: u194 :: u195 :: u196 :: u197 :: u198 :: u199 :: u200 :: u201 :: u202 :: u203 :: u204 :: u205 :: u206 :: u207 :: u208 :: u209 :: u210 :: u211 :: u212 :: u213 :: u214 :: u215 :: u216 :: u217 :: u218 :: u219 :: u220 :: u221 :: u222 :: u223 :: u224 :: u225 :: u226 :: u227 :: u228 :: u229 :: u230 :: u231 :: u232 :: u233 :: u234 :: u235 :: u236 :: u237 :: u238 :: u239 :: u240 :: u241 :: u242 :: u243 :: u244 :: u245 :: u246 :: u247 :: u248 :: u249 :: u250 :: u251 :: u252 :: u253 :: u254 :: u255 :: u256 :: u257 :: u258 :: u259 :: u260 :: u261 :: u262 :: u263 :: u264 :: u265 :: u266 :: u267 :: u268 :: u269 :: u270 :: u271 :: u272 :: []), []⟩ w := by
  have HQQ := hide hQ; have HU := hide hU; have HV := hide hV; have HLU := hide hlu; have HQR := hide hq
  have hVP := natV_pos_lt okv hvs
  have hRP := natV_pos_lt okR hRl
  have hgb : g < 4294967296 := hT.lt
  have hub : un < 4294967296 := hun
  obtain ⟨p, hp⟩ : ∃ p, p = j + n := ⟨_, rfl⟩
  have hpl : p = (lo ++ R).length := by rw [List.length_append, hlo, hRl, hp]
  have d0 := hU.cell p un (row_get _ _ _ _ hpl)
  have f0 := hU.frozen p
  obtain ⟨qj, hqj⟩ : ∃ x, qr[j]? = some x := ⟨_, List.getElem?_eq_getElem (by omega)⟩
  have dq := hq.cell j qj hqj
  have fq := hq.frozen j
  obtain ⟨w7, w8, hpu, hjl⟩ := j_nums hp hjn hlu hjq
  have HPL := hide hpl
  by_cases hle : c + d ≤ un
  · obtain ⟨hgq9, hRn, hun9⟩ := taken_right hT hv0 rfl hS hRP (Nat.le_of_lt hVP) hle
    obtain ⟨s1, w1, w2, w3, w4⟩ := right_nums hub hun9 hgb
    obtain ⟨W1, hW1⟩ : ∃ W1, W1 = w.setCell ⟨gu, p, none⟩ (.int .u32 ((0 : Nat) : Int)) := ⟨_, rfl⟩
    have hU1 : VRow W1 gu (lo ++ R ++ 0 :: zs) := by
      have := hU.set p 0
      rw [hpl, List.set_append_right _ _ (Nat.le_refl _), Nat.sub_self] at this
      rw [hW1, hpl]; exact this
    have hq1 : VRow W1 gq qr := by rw [hW1]; exact hq.setO hgq
    have hk1 : KTwo B gu gq w W1 := by rw [hW1]; exact (KTwo.refl _ _ _ _).set1 hBu p _
    have dq1 := hq1.cell j qj hqj
    have fq1 := hq1.frozen j
    have HRES : Hid (∃ A : List Nat, VRow (W1.setCell ⟨gq, j, none⟩ (.int .u32 (g : Nat))) gu (lo ++ A ++ 0 :: zs) ∧ A.length = n ∧ okV A ∧ natV A = (natV wl + un * B32 ^ n) % natV vs ∧ VRow (W1.setCell ⟨gq, j, none⟩ (.int .u32 (g : Nat))) gq (qr.set j ((natV wl + un * B32 ^ n) / natV vs)) ∧ KTwo B gu gq w (W1.setCell ⟨gq, j, none⟩ (.int .u32 (g : Nat)))) :=
      hide ⟨R, hU1.setO (Ne.symm hgq), hRl, okR, hRn, by rw [← hgq9]; exact hq1.set j g, hk1.set2 hBq j _⟩
    have HW1 := hide hW1
    clear hQ hU hV hlu hq hVP hRP hgb hub hp hpl hqj hle hgq9 hRn hun9 hU1 hq1 hk1 hW1 hT hS hv0 okR okv hun dq fq HU HV HQR
    conv => arg 2; whnf
    go_upto_region 39 with fail
    have hW9 := unhide HW1
    try rw [show ((0 : Nat) : Int) = 0 from rfl] at hW9
    rw [← hW9]
    clear hW9 d0 f0
    go_wp2
    refine unhide HQQ _ _ _ _ _ _ _ _ _ _ _ _ _ _ _ _ _ _ _ _ _ _ _ _ _ _ _ _ _ _ _ _ _ _ _ _ _ _ _ _ _ _ _ _ _ _ _ _ _ _ _ _ _ _ _ _ _ _ _ _ _ _ _ _ _ _ _ _ _ _ _ _ ?_
    exact unhide HRES
  · have hlt : un < c + d := by omega
    have hback : 1 ≤ g ∧ g - 1 = (natV wl + un * B32 ^ n) / natV vs ∧ (natV R + natV vs) % B32 ^ n = (natV wl + un * B32 ^ n) % natV vs ∧ un + (natV R + natV vs) / B32 ^ n = c + d ∧ (natV R + natV vs) / B32 ^ n = 1 :=
      taken_back hT hv0 rfl hS hRP (Nat.le_of_lt hVP) hlt (by rw [Nat.mul_comm, Nat.mod_add_div]) (Nat.mod_lt _ (Nat.pow_pos B32_pos))
    obtain ⟨hg1, _, _, hun9, hc9⟩ := hback
    rw [hc9] at hun9
    obtain ⟨s1, g1, hge, w1, w2, w3, w4, w5⟩ := back_nums hub hun9 hd hgb hg1
    obtain ⟨W1, hW1⟩ : ∃ W1, W1 = w.setCell ⟨gu, p, none⟩ (.int .u32 ((4294967295 : Nat) : Int)) := ⟨_, rfl⟩
    have hU1 : VRow W1 gu (lo ++ R ++ 4294967295 :: zs) := by
      have := hU.set p 4294967295
      rw [hpl, List.set_append_right _ _ (Nat.le_refl _), Nat.sub_self] at this
      rw [hW1, hpl]; exact this
    have hk1 : KOnly gu w W1 := by rw [hW1]; exact (KOnly.refl _ _).set p _
    have HADD := hide (fun (A : List Nat) (c2 : Nat) (hA : natV A + c2 * B32 ^ n = natV R + natV vs) (hAl : natV A < B32 ^ n) => taken_back hT hv0 rfl hS hRP (Nat.le_of_lt hVP) hlt hA hAl)
    have HW1 := hide hW1; have HU1 := hide hU1; have HK1 := hide hk1; have HV1 := hide (hV.only hk1 hg); have HQ1 := hide (hq.only hk1 hgq)
    have HQJ := hide hqj; have HGE := hide hge; have HOK := hide (And.intro okR okv)
    clear hQ hU hV hlu hq hVP hRP hgb hub hp hpl hqj hle hU1 hk1 hW1 hT hS hv0 okR okv hun hlt hun9 hc9 hg1 hge dq fq HU HV HQR
    conv => arg 2; whnf
    go_upto_region 39 with fail
    have hW9 := unhide HW1
    try rw [show ((4294967295 : Nat) : Int) = 4294967295 from rfl] at hW9
    rw [← hW9]
    clear hW9 d0 f0
    go_upto_region 41 with fail
    go_cut [22] from 262 to 262 (fun c9 wx => c9 = .int .u64 0 ∧ wx = W1)
    case first =>
      go_wp2_with fail
      go_meet
      exact ⟨rfl, rfl⟩
    case rest =>
    obtain ⟨rfl, hwc⟩ := hcut
    have hwc2 := hwc.symm
    subst hwc2
    clear hwc
    apply_assumption
    refine knAdd gu gv ov capv lu j n lo R vs zs 4294967295 W1 _ (unhide HU1) (unhide HV1) hg hlo hRl hvs (unhide HOK).1 (unhide HOK).2 (show 4294967295 < 4294967296 by decide) hjn (unhide HLU) _ _ _ _ _ _ _ _ _ _ _ _ _ _ _ _ _ _ _ _ _ _ _ _ _ _ _ _ _ _ _ _ _ _ _ _ _ _ _ _ _ _ _ _ _ _ _ _ _ _ _ _ _ _ _ _ _ _ _ _ _ _ _ _ _ _ _ _ _ _ _ _ _ _ _ _ _ _ _ _ _ _ _ _ _ _ _ _ _ _ _ _ _ _ _ _ _ _ _ _ _ _ _ _ _ _ _ _ _ _ _ _ _ _ _ _ _ _ _ _ _ _ _ _ _ _ _ _ _ _ _ _ _ _ _ _ _ _ _ _ _ _ _ _ _ _ _ _ _ _ _ _ _ _ _ _ _ _ _ _ _ _ _ _ _ _ _ _ _ _ _ _ _ _ _ _ _ _ _ _ _ _ _ _ _ _ _ _ _ _ _ _ _ _ _ _ _ _ _ _ _ _ _ _ _ _ _ _ _ _ _ _ _ _ _ _ _ _ _ _ _ _ _ _ _ _ _ _ _ _ _ _ _ _ _ _ _ _ _ _ _ _ _ _ _ _ _ _ _ _ _ _ _ _ _ _ _ _ _ _ _ _ _ _ _ _ _ _ ?_
    intro y22 y27 y223 y224 y225 y226 y227 y228 y229 y230 y231 y232 y233 y234 y235 y236 y237 y238 y239 y240 y241 y242 y243 y244 y245 y246 y247 y248 y249 y250 y251 y252 y253 y254 y255 y256 y257 y258 y259 y260 y261
    intro wy hA
    obtain ⟨A, c2, hUA, hAl, hAok, hAs, hKA⟩ := hA
    obtain ⟨_, hgq9, hAn, _, hc2⟩ := unhide HADD A c2 hAs (natV_pos_lt hAok hAl)
    rw [hc2, show (4294967295 + 1) % B32 = 0 from by decide] at hUA
    have hqA := (unhide HQ1).only hKA hgq
    have dq2 := hqA.cell j qj (unhide HQJ)
    have fq2 := hqA.frozen j
    have hkA := ((KTwo.refl B gu gq w).one hBu (unhide HK1)).one hBu hKA
    have HRES : Hid (∃ A : List Nat, VRow (wy.setCell ⟨gq, j, none⟩ (.int .u32 (g1 : Nat))) gu (lo ++ A ++ 0 :: zs) ∧ A.length = n ∧ okV A ∧ natV A = (natV wl + un * B32 ^ n) % natV vs ∧ VRow (wy.setCell ⟨gq, j, none⟩ (.int .u32 (g1 : Nat))) gq (qr.set j ((natV wl + un * B32 ^ n) / natV vs)) ∧ KTwo B gu gq w (wy.setCell ⟨gq, j, none⟩ (.int .u32 (g1 : Nat)))) :=
      hide ⟨A, hUA.setO (Ne.symm hgq), hAl, hAok, hAn, by rw [← hgq9, ← unhide HGE]; exact hqA.set j g1, hkA.set2 hBq j _⟩
    clear hUA hAl hAok hAs hKA hgq9 hAn hc2 hqA hkA
    go_wp2
    refine unhide HQQ _ _ _ _ _ _ _ _ _ _ _ _ _ _ _ _ _ _ _ _ _ _ _ _ _ _ _ _ _ _ _ _ _ _ _ _ _ _ _ _ _ _ _ _ _ _ _ _ _ _ _ _ _ _ _ _ _ _ _ _ _ _ _ _ _ _ _ _ _ _ _ _ ?_
    exact unhide HRES
end Go.Proofs.YtckkhpegimkefaaGreatDoor
namespace Go.Proofs.YtckkhpegimkefaaGreatDoor
open Go.RowKit
set_option linter.unusedVariables false
set_option linter.unusedSimpArgs false
set_option maxRecDepth 1000000

theorem take_nums {g v u c d : Nat} (hg : g < 4294967296) (hv : v < 4294967296) (hu : u < 4294967296) (hc : c < 4294967296) (hd : d ≤ 1) : ∃ gn c1 low c' t0 t r d' : Nat, c + g * v = low + c' * B32 ∧ r + low + d = u + d' * B32 ∧ IntKind.u64.wrap (v : Int) = (v : Int) ∧ IntKind.u64.wrap ((g : Int) * (v : Int)) = (gn : Int) ∧ IntKind.u64.wrap ((c : Int) + (gn : Int)) = (c1 : Int) ∧ IntKind.u64.wrap (u : Int) = (u : Int) ∧ (c1 : Int) % 4294967296 = (low : Int) ∧ IntKind.u64.wrap (low : Int) = (low : Int) ∧ IntKind.u64.wrap ((u : Int) - (low : Int)) = (t0 : Int) ∧ IntKind.u64.wrap ((t0 : Int) - (d : Int)) = (t : Int) ∧ (t : Int) % 4294967296 = (r : Int) ∧ (t : Int) / 9223372036854775808 = (d' : Int) ∧ (c1 : Int) / 4294967296 = (c' : Int) ∧ c' < 4294967296 ∧ d' ≤ 1 ∧ r < B32 := by
  have hgv : g * v ≤ 4294967295 * 4294967295 := Nat.mul_le_mul (by omega) (by omega)
  obtain ⟨gn, hgn⟩ : ∃ gn, gn = g * v := ⟨_, rfl⟩
  rw [← hgn] at hgv
  obtain ⟨t0, ht0, w0⟩ := u64_nat ((u : Int) - (((c + gn) % 4294967296 : Nat) : Int))
  obtain ⟨t, ht, wt⟩ := u64_nat ((t0 : Int) - (d : Int))
  refine ⟨gn, c + gn, (c + gn) % 4294967296, (c + gn) / 4294967296, t0, t, t % 4294967296, t / 9223372036854775808, ?_, ?_, wraps_u64 _ (by omega) (by omega), ?_, ?_, wraps_u64 _ (by omega) (by omega), by omega, wraps_u64 _ (by omega) (by omega), w0, wt, by omega, by omega, by omega, by omega, by omega, ?_⟩
  · rw [← hgn]; show c + gn = _ + _ * 4294967296; omega
  · show _ = u + _ * 4294967296; omega
  · rw [show (g : Int) * (v : Int) = (gn : Int) by rw [hgn]; exact (Int.natCast_mul _ _).symm]
    exact wraps_u64 _ (by omega) (by omega)
  · rw [wraps_u64 _ (by omega) (by omega)]; omega
  · show _ < 4294967296; omega
set_option maxHeartbeats 8000000 in
theorem knTake (B gu gv gq ov capv lu lq j n g un : Nat) (lo wl vs zs qr : List Nat) (w : World) (Q : Exit → Act → World → Prop)
    (hU : VRow w gu (lo ++ wl ++ un :: zs)) (hV : WRow w (some ⟨gv, ov, none⟩) vs) (hq : VRow w gq qr) (hg : gv ≠ gu) (hgq : gq ≠ gu) (hBu : B ≤ gu) (hBq : B ≤ gq) (hlo : lo.length = j) (hwl : wl.length = n) (hvs : vs.length = n) (hqr : qr.length = lq) (hjq : j < lq) (okw : okV wl) (okv : okV vs) (hun : un < B32) (hjn : ((j + n : Nat) : Int) ≤ 100000) (hlu : lu = j + n + 1 + zs.length)
    (hT : TakenK (natV wl + un * B32 ^ n) (natV vs) g) (hv0 : 0 < natV vs)
    (u0 u1 u2 u3 u4 u5 u6 u7 u8 u9 u10 u14 u16 u17 u19 u21 u22 u23 u24 u25 u26 u27 u28 u29 u30 u31 u32 u33 u34 u35 u36 u37 u38 u39 u40 u41 u42 u43 u44 u45 u46 u47 u48 u49 u50 u51 u52 u53 u54 u55 u56 u57 u58 u59 u60 u61 u62 u63 u64 u65 u66 u67 u68 u69 u70 u71 u72 u73 u74 u75 u76 u77 u78 u79 u80 u81 u82 u83 u84 u85 u86 u87 u88 u89 u90 u91 u92 u93 u94 u95 u96 u97 u98 u99 u100 u101 u102 u103 u104 u105 u106 u107 u108 u109 u110 u111 u112 u113 u114 u115 u116 u117 u118 u119 u120 u121 u122 u123 u124 u125 u126 u127 u128 u129 u130 u131 u132 u133 u134 u135 u136 u137 u138 u139 u140 u141 u142 u143 u144 u145 u146 u147 u148 u149 u150 u151 u152 u153 u154 u155 u156 u157 u158 u159 u160 u161 u162 u163 u164 u165 u166 u167 u168 u169 u170 u171 u172 u173 u174 u175 u176 u177 u178 u179 u180 u181 u182 u183 u184 u185 u186 u187 u188 u189 u190 u191 u192 u193 u194 u195 u196 u197 u198 u199 u200 u201 u202 u203 u204 u205 u206 u207 u208 u209 u210 u211 u212 u213 u214 u215 u216 u217 u218 u219 u220 u221 u222 u223 u224 u225 u226 u227 u228 u229 u230 u231 u232 u233 u234 u235 u236 u237 u238 u239 u240 u241 u242 u243 u244 u245 u246 u247 u248 u249 u250 u251 u252 u253 u254 u255 u256 u257 u258 u259 u260 u261 u262 u263 u264 u265 u266 u267 u268 u269 u270 u271 u272 : Value)
    (hQ : ∀ (v20 v22 v23 v24 v25 v26 v27 v162 v163 v164 v165 v166 v167 v168 v169 v170 v171 v172 v173 v174 v175 v176 v177 v178 v179 v180 v181 v182 v183 v184 v185 v186 v187 v188 v189 v190 v191 v192 v193 v194 v195 v196 v197 v198 v199 v200 v201 v202 v203 v204 v205 v206 v207 v208 v209 v210 v211 v212 v213 v214 v215 v216 v217 v218 v219 v220 v221 v222 v223 v224 v225 v226 v227 v228 v229 v230 v231 v232 v233 v234 v235 v236 v237 v238 v239 v240 v241 v242 v243 v244 v245 v246 v247 v248 v249 v250 v251 v252 v253 v254 v255 v256 v257 v258 v259 v260 v261 v262 v263 v264 v265 v266 : Value) (wy : World), (∃ A : List Nat, VRow wy gu (lo ++ A ++ 0 :: zs) ∧ A.length = n ∧ okV A ∧ natV A = (natV wl + un * B32 ^ n) % natV vs ∧ VRow wy gq (qr.set j ((natV wl + un * B32 ^ n) / natV vs)) ∧ KTwo B gu gq w wy) → Q .normal ⟨List.toArray (u0 :: u1 :: u2 :: u3 :: u4 :: u5 :: u6 :: u7 :: u8 :: u9 :: u10 :: (.slice (some ⟨gv, ov, none⟩) n capv) :: (.slice (some ⟨gu, 0, none⟩) lu lu) :: (.int .i64 (n : Nat)) :: u14 :: (.slice (some ⟨gq, 0, none⟩) lq lq) :: u16 :: u17 :: (.int .i64 (j : Nat)) :: u19 :: v20 :: u21 :: v22 :: v23 :: v24 :: v25 :: v26 :: v27 :: u28 :: u29 :: u30 :: u31 :: u32 :: u33 :: u34 :: u35 :: u36 :: u37 :: u38 :: u39 :: u40 :: u41 :: u42 :: u43 :: u44 :: u45 :: u46 :: u47 :: u48 :: u49 :: u50 :: u51 :: u52 :: u53 :: u54 :: u55 :: u56 :: u57 :: u58 :: u59 :: u60 :: u61 :: u62 :: u63 :: u64 :: u65 :: u66 :: u67 :: u68 :: u69 :: u70 :: u71 :: u72 :: u73 :: u74 :: u75 :: u76 :: u77 :: u78 :: u79 :: u80 :: u81 :: u82 :: u83 :: u84 :: u85 :: u86 :: u87 :: u88 :: u89 :: u90 :: u91 :: u92 :: u93 :: u94 :: u95 :: u96 :: u97 :: u98 :: u99 :: u100 :: u101 :: u102 :: u103 :: u104 :: u105 :: u106 :: u107 :: u108 :: u109 :: u110 :: u111 :: u112 :: u113 :: u114 :: u115 :: u116 :: u117 :: u118 :: u119 :: u120 :: u121 :: u122 :: u123 :: u124 :: u125 :: u126 :: u127 :: u128 :: u129 :: u130 :: u131 :: u132 :: u133 :: u134 :: u135 :: u136 :: u137 :: u138 :: u139 :: u140 :: u141 :: u142 :: u143 :: u144 :: u145 :: u146 :: u147 :: u148 :: u149 :: u150 :: u151 :: u152 :: u153 :: u154 :: u155 :: u156 :: u157 :: u158 :: u159 :: u160 :: u161 :: v162 :: v163 :: v164 :: v165 :: v166 :: v167 :: v168 :: v169 :: v170 :: v171 :: v172 :: v173 :: v174 :: v175 :: v176 :: v177 :: v178 :: v179 :: v180 :: v181 :: v182 :: v183 :: v184 :: v185 :: v186 :: v187 :: v188 :: v189 :: v190 :: v191 :: v192 :: v193 :: v194 :: v195 :: v196 :: v197 :: v198 :: v199 :: v200 :: v201 :: v202 :: v203 :: v204 :: v205 :: v206 :: v207 :: v208 :: v209 :: v210 :: v211 :: v212 :: v213 :: v214 :: v215 :: v216 :: v217 :: v218 :: v219 :: v220 :: v221 :: v222 :: v223 :: v224 :: v225 :: v226 :: v227 :: v228 :: v229 :: v230 :: v231 :: v232 :: v233 :: v234 :: v235 :: v236 :: v237 :: v238 :: v239 :: v240 :: v241 :: v242 :: v243 :: v244 :: v245 :: v246 :: v247 :: v248 :: v249 :: v250 :: v251 :: v252 :: v253 :: v254 :: v255 :: v256 :: v257 :: v258 :: v259 :: v260 :: v261 :: v262 :: v263 :: v264 :: v265 :: v266 :: u267 :: u268 :: u269 :: u270 :: u271 :: u272 :: []), []⟩ wy) :
    Code.wp Tryz.prog kn28 Q ⟨List.toArray (u0 :: u1 :: u2 :: u3 :: u4 :: u5 :: u6 :: u7 :: u8 :: u9 :: u10 :: (.slice (some ⟨gv, ov, none⟩) n capv) :: (.slice (some ⟨gu, 0, none⟩) lu lu) :: (.int .i64 (n : Nat)) :: u14 :: (.slice (some ⟨gq, 0, none⟩) lq lq) :: u16 :: u17 :: (.int .i64 (j : Nat)) :: u19 :: (.int .u64 (g : Nat)) :: u21 :: u22 :: u23 :: u24 :: u25 :: u26 :: u27 :: u28 :: u29 :: u30 :: u31 :: u32 :: u33 :: u34 :: u35 :: u36 :: u37 :: u38 :: u39 :: u40 :: u41 :: u42 :: u43 :: u44 :: u45 :: u46 :: u47 :: u48 :: u49 :: u50 :: u51 :: u52 :: u53 :: u54 :: u55 :: u56 :: u57 :: u58 :: u59 :: u60 :: u61 :: u62 :: u63 :: u64 :: u65 :: u66 :: u67 :: u68 :: u69 :: u70 :: u71 :: u72 :: u73 :: u74 :: u75 :: u76 :: u77 :: u78 :: u79 :: u80 :: u81 :: u82 :: u83 :: u84 :: u85 :: u86 :: u87 :: u88 :: u89 :: u90 :: u91 :: u92 :: u93 :: u94 :: u95 :: u96 :: u97 :: u98 :: u99 :: u100 :: u101 :: u102 :: u103 :: u104 :: u105 :: u106 :: u107 :: u108 :: u109 :: u110 :: u111 :: u112 :: u113 :: u114 :: u115 :: u116 :: u117 :: u118 :: u119 :: u120 :: u121 :: u122 :: u123 :: u124 :: u125 :: u126 :: u127 :: u128 :: u129 :: u130 :: u131 :: u132 :: u133 :: u134 :: u135 :: u136 :: u137 :: u138 :: u139 :: u140 :: u141 :: u142 :: u143 :: u144 :: u145 :: u146 :: u147 :: u148 :: u149 :: u150 :: u151 :: u152 :: u153 :: u154 :: u155 :: u156 :: u157 :: u158 :: u159 :: u160 :: u161 :: u162 :: u163 :: u164 :: u165 :: u166 :: u167 :: u168 :: u169 :: u170 :: u171 :: u172 :: u173 :: u174 :: u175 :: u176 :: u177 :: u178 :: u179 :: u180 :: u181 :: u182 :: u183 :: u184 :: u185 :: u186 :: u187 :: u188 :: u189 :: u190 :: u191 :: u192 :: u193 :: u194 :: u195 :: u196 :: u197 :: u198 :: u199 :: u200 :: u201 :: u202 :: u203 :: u204 :: u205 :: u206 :: u207 :: u208 :: u209 :: u210 :: u211 :: u212 :: u213 :: u214 :: u215 :: u216 :: u217 :: u218 :: u219 :: u220 :: u221 :: u222 :: u223 :: u224 :: u225 :: u226 :: u227 :: u228 :: u229 :: u230 :: u231 :: u232 :: u233 :: u234 :: u235 :: u236 :: u237 :: u238 :: u239 :: u240 :: u241 :: u242 :: u243 :: u244 :: u245 :: u246 :: u247 :: u248 :: u249 :: u250 :: u251 :: u252 :: u253 :: u254 :: u255 :: u256 :: u257 :: u258 :: u259 :: u260 :: u261 :: u262 :: u263 :: u264 :: u265 :: u266 :: u267 :: u268 :: u269 :: u270 :: u271 :: u272 :: []), []⟩ w := by
  have HQQ := hide hQ; have HU := hide hU; have HV := hide hV; have HLU := hide hlu; have HQR := hide hq; have HT := hide hT; have HUN := hide hun; have HV0 := hide hv0
  have hgb : g < 4294967296 := hT.lt
  clear hQ hU hV hlu hq hT hun hv0
  conv => arg 2; whnf
  go_upto_block 4 with fail
  go_cut [22, 23, 24, 25] from 162 to 199 (fun c9 d9 _ _ wx => ∃ (c d : Nat) (R : List Nat), c9 = .int .u64 c ∧ d9 = .int .u64 d ∧ d ≤ 1 ∧ VRow wx gu (lo ++ R ++ un :: zs) ∧ R.length = n ∧ okV R ∧ natV R + g * natV vs = natV wl + (c + d) * B32 ^ n ∧ KOnly gu w wx)
  case first =>
    go_wp2
    go_loopw [22, 23, 24] (fun c9 d9 i wr => ∃ (k c d : Nat) (R : List Nat), k ≤ n ∧ i = .int .i64 k ∧ c9 = .int .u64 c ∧ d9 = .int .u64 d ∧ c < 4294967296 ∧ d ≤ 1 ∧ VRow wr gu (lo ++ R ++ wl.drop k ++ un :: zs) ∧ R.length = k ∧ okV R ∧ Hid (natV R + g * natV (vs.take k) = natV (wl.take k) + (c + d) * B32 ^ k) ∧ KOnly gu w wr) (fun _ _ i _ => n - (intOf i).toNat)
    case atStart => exact ⟨0, 0, 0, [], Nat.zero_le _, rfl, rfl, rfl, by decide, by decide, by simpa using unhide HU, rfl, okV_nil, hide (by simp [natV]), KOnly.refl _ _⟩
    case round =>
      obtain ⟨k, c, d, R, hk, rfl, rfl, rfl, hcb, hdb, hU, hRl, hRok, hRv, hKO⟩ := hrel
      by_cases hlt : k < n
      · obtain ⟨u, hu⟩ : ∃ u, wl[k]? = some u := ⟨_, List.getElem?_eq_getElem (by rw [hwl]; exact hlt)⟩
        obtain ⟨v, hv⟩ : ∃ v, vs[k]? = some v := ⟨_, List.getElem?_eq_getElem (by rw [hvs]; exact hlt)⟩
        have hub : u < 4294967296 := okV_get okw hu
        have hvb : v < 4294967296 := okV_get okv hv
        have d1 := ((unhide HV).only hKO hg).at hv
        obtain ⟨p, hp⟩ : ∃ p, p = k + j := ⟨_, rfl⟩
        have hpl : p = (lo ++ R).length := by rw [List.length_append, hlo, hRl, hp, Nat.add_comm]
        rw [row_at lo R wl _ hu] at hU
        have d0 := hU.cell p u (row_get _ _ _ _ hpl)
        have f0 := hU.frozen p
        obtain ⟨gn, c1, low, c', t0, t, r, d', hs1, hs2, x1, x2, x3, x4, x5, x6, x7, x8, x9, x10, x11, hc', hd', hrb⟩ := take_nums hgb hvb hub hcb hdb
        obtain ⟨w7', w8', hpu, hkn⟩ := idx_nums (a := k) (b := j) (n := n) (lu := lu) (z := zs.length) hp hlt hjn (unhide HLU)
        have HSUM := hide (take_step (unhide hRv) hRl hu hv hs1 hs2)
        have HV2 : Hid (VRow (wr.setCell ⟨gu, p, none⟩ (.int .u32 (r : Nat))) gu (lo ++ (R ++ [r]) ++ wl.drop (k + 1) ++ un :: zs)) := hide (by
          have := hU.set p r
          rwa [row_set lo R wl _ p hpl] at this)
        have HKO : Hid (KOnly gu w (wr.setCell ⟨gu, p, none⟩ (.int .u32 (r : Nat)))) := hide (hKO.set p _)
        have HRO := hide (okV_snoc hRok hrb)
        have HM := hide (show n - (k + 1) < n - k by omega)
        have HK1 := hide (show k + 1 ≤ n from hlt)
        have HRL := hide (show (R ++ [r]).length = k + 1 by simp [hRl])
        clear hu hv hub hvb hU hKO hpl hp hs1 hs2 hrb hRv hRok HV okw okv hlt hk hcb hdb HT HUN HV0 hRl
        go_wp2
        go_roundw
        case rel => exact ⟨k + 1, c', d', R ++ [r], unhide HK1, by go_num, rfl, rfl, hc', hd', unhide HV2, unhide HRL, unhide HRO, HSUM, unhide HKO⟩
        case measure =>
          have := unhide HM
          simp [intOf]; omega
      · have hkn : k = n := by omega
        have hkd : ¬ (k : Int) < (n : Int) := by omega
        have HREL : Hid (natV R + g * natV vs = natV wl + (c + d) * B32 ^ n) := hide (by
          have := unhide hRv
          rw [hkn, List.take_of_length_le (by omega), List.take_of_length_le (by omega)] at this
          exact this)
        have hwd : wl.drop k = [] := List.drop_of_length_le (by omega)
        rw [hwd, List.append_nil] at hU
        have HU2 := hide hU; have HRL : Hid (R.length = n) := hide (by rw [hRl, hkn])
        have HRO := hide hRok; have HKO := hide hKO
        clear hU hRv hRok hKO hRl hkn hwd hcb HV okw okv HT HUN HV0 hk hlt
        go_wp2
        go_meet
        exact ⟨c, d, R, rfl, rfl, hdb, unhide HU2, unhide HRL, unhide HRO, unhide HREL, unhide HKO⟩
  case rest =>
  obtain ⟨c, d, R, rfl, rfl, hdb, hU, hRl, hRok, hRel, hKO⟩ := hcut
  have hV9 := (unhide HV).only hKO hg
  have hq9 := (unhide HQR).only hKO hgq
  have HK9 := hide ((KTwo.refl B gu gq w).one hBu hKO)
  apply_assumption
  refine knTail B gu gv gq ov capv lu lq j n g c d un lo R wl vs zs qr wc _ hU hV9 hq9 hg hgq hBu hBq hlo hRl hvs hqr hjq hRok okv (unhide HUN) hdb hjn (unhide HLU) (unhide HT) (unhide HV0) hRel _ _ _ _ _ _ _ _ _ _ _ _ _ _ _ _ _ _ _ _ _ _ _ _ _ _ _ _ _ _ _ _ _ _ _ _ _ _ _ _ _ _ _ _ _ _ _ _ _ _ _ _ _ _ _ _ _ _ _ _ _ _ _ _ _ _ _ _ _ _ _ _ _ _ _ _ _ _ _ _ _ _ _ _ _ _ _ _ _ _ _ _ _ _ _ _ _ _ _ _ _ _ _ _ _ _ _ _ _ _ _ _ _ _ _ _ _ _ _ _ _ _ _ _ _ _ _ _ _ _ _ _ _ _ _ _ _ _ _ _ _ _ _ _ _ _ _ _ _ _ _ _ _ _ _ _ _ _ _ _ _ _ _ _ _ _ _ _ _ _ _ _ _ _ _ _ _ _ _ _ _ _ _ _ _ _ _ _ _ _ _ _ _ _ _ _ _ _ _ _ _ _ _ _ _ _ _ _ _ _ _ _ _ _ _ _ _ _ _ _ _ _ _ _ _ _ _ _ _ _ _ _ _ _ _ _ _ _ _ _ _ _ _ _ _ _ _ _ _ _ _ _ _ _ _ _ _ _ _ _ _ _ _ _ _ ?_
  intro y20 y22 y26 y27 y200 y201 y202 y203 y204 y205 y206 y207 y208 y209 y210 y211 y212 y213 y214 y215 y216 y217 y218 y219 y220 y221 y222 y223 y224 y225 y226 y227 y228 y229 y230 y231 y232 y233 y234 y235 y236 y237 y238 y239 y240 y241 y242 y243 y244 y245 y246 y247 y248 y249 y250 y251 y252 y253 y254 y255 y256 y257 y258 y259 y260 y261 y262 y263 y264 y265 y266
  intro wy hA
  obtain ⟨A, a1, a2, a3, a4, a5, a6⟩ := hA
  refine unhide HQQ _ _ _ _ _ _ _ _ _ _ _ _ _ _ _ _ _ _ _ _ _ _ _ _ _ _ _ _ _ _ _ _ _ _ _ _ _ _ _ _ _ _ _ _ _ _ _ _ _ _ _ _ _ _ _ _ _ _ _ _ _ _ _ _ _ _ _ _ _ _ _ _ _ _ _ _ _ _ _ _ _ _ _ _ _ _ _ _ _ _ _ _ _ _ _ _ _ _ _ _ _ _ _ _ _ _ _ _ _ _ _ _ _ ?_
  exact ⟨A, a1, a2, a3, a4, a5, (unhide HK9).trans a6⟩
end Go.Proofs.YtckkhpegimkefaaGreatDoor
