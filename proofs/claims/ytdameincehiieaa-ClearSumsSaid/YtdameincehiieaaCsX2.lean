/- ClearSums: the arm 0 of the switch. (Made by wip/drafts/genCs.py.) -/
import Derived.Test.YtdameincehiieaaCsX1
import Derived.Deep.DeepCutAuto
import Derived.Deep.CutBlock
import Derived.Deep.RegionHeld3
namespace Go.Proofs.Ytdameincehiieaa
open Go.RowKit Go.WideMaps Go.Maps
set_option linter.unusedVariables false
set_option linter.unusedSimpArgs false
set_option maxRecDepth 1000000
set_option maxHeartbeats 8000000 in
theorem csSw0 (w wx : World) (F : Nat → Prop) (b mp gs : Nat) (S : Clr) (H : Hld) (sd sh st sa sy : Int) (sf : Bool) (pf pd ps pt pa py : Int) (Q : Exit → Act → World → Prop)
    (hW1 : CsW w wx F b S ⟨mp, mp + 1, mp + 1 + 1, mp + 1 + 1 + 1⟩ H) (hV : CsV S H) (hX : wx.heap[gs]? = some (stepObj ⟨sd, sh, st, sa, sy, sf, ⟨pf, pd, ps, pt, pa, py⟩⟩)) (hKX : wx.heap[gs + 1]? = some (.cells #[.int .i64 sh, .int .i64 st] 60)) (hNF : ∀ x, F x → x < gs) (hI : InR sh ∧ InR st ∧ InR ps ∧ InR pt) (hq : sd = 0)
    (u0 u1 u2 u3 u4 u6 u12 u15 u16 u17 u18 u19 u20 u21 u22 u23 u24 u25 u26 u27 u28 u29 u30 u31 u32 u33 u34 u35 u36 u37 u38 u39 u40 u41 u42 u43 u44 u45 u46 u47 u48 u49 u50 u51 u52 u53 u54 u55 u56 u57 u58 u59 u61 u62 u63 u64 u65 u66 u67 u68 u69 u70 u71 u72 u73 u74 u75 u76 u77 u78 u79 u80 u81 u82 u83 u84 u85 u86 u87 u88 u89 u90 u91 u92 u93 u94 u95 u96 u97 u98 u99 u100 u101 u102 u103 u104 u105 u106 u107 u108 u109 u110 u111 u112 u113 u114 u115 u116 u117 u118 u119 u120 u121 u122 u123 u124 u125 u126 u127 u128 u129 u130 u131 u132 u133 u134 u135 u136 u137 u138 u139 u140 u141 u142 u143 u144 u145 u146 u147 u148 u149 u150 u151 u152 u153 u154 u155 u156 u157 u158 u159 u160 u161 u162 u163 u164 u165 u166 u167 u168 u169 u170 u171 u172 u173 u174 u175 u176 u177 u178 u179 u180 u181 u182 u183 u184 u185 u186 u187 u188 u189 u190 u191 u192 u193 u194 u195 u196 u197 u198 u199 u200 u201 u202 u203 u204 u205 u206 u207 u208 u209 u210 u211 u212 u213 u214 u215 u216 u217 u218 u219 u220 u221 u222 u223 u224 u225 u226 u227 u228 u229 u230 u231 u232 u233 u234 u235 u236 u237 u238 u239 u240 u241 u242 u243 u244 u245 u246 u247 u248 u249 u250 u251 u252 u253 u254 u255 u256 u257 u258 u259 u260 u261 u262 u263 u264 u265 u266 u267 u268 u269 u270 u271 u272 u273 u274 u275 u276 u277 u278 u279 u280 u281 u282 u283 u284 u285 u286 u287 u288 u289 u290 u291 u292 u293 u294 u295 u296 u297 u298 u299 u300 u301 u302 u303 u304 u305 u306 u307 u308 u309 u310 u311 u312 u313 u314 u315 u316 u317 u318 u319 u320 u321 u322 u323 u324 u325 u326 u327 u328 u329 u330 u331 u332 u333 u334 u335 u336 u337 u338 u339 u340 u341 u342 u343 u344 u345 u346 u347 u348 u349 u350 : Value)
    (hQ : ∀ (d' : Int) (wy : World) (v15 v17 v61 v62 v63 v64 v65 v66 v67 v68 v69 v70 v71 v72 v73 v74 v75 v76 v77 v78 v79 v80 v81 v82 v83 v84 v85 v86 v87 v88 v89 v90 v91 v92 v93 v94 v95 v96 v97 v98 v99 v100 v101 v102 v103 v104 v105 v106 v107 v108 v109 v110 v111 v112 v113 v114 v115 v116 v117 v118 v119 v120 v121 v122 v123 v124 v125 v126 v127 v128 v129 v130 v131 v132 v133 v134 v135 v136 v137 v138 v139 v140 v141 v142 v143 v144 v145 v146 v147 v148 v149 v150 v151 v152 v153 v154 v155 v156 v157 v158 v159 v160 v161 v162 : Value), CsArm w wy b ⟨mp, mp + 1, mp + 1 + 1, mp + 1 + 1 + 1⟩ gs ⟨sd, sh, st, sa, sy, sf, ⟨pf, pd, ps, pt, pa, py⟩⟩ d' → Q .normal ⟨List.toArray (u0 :: u1 :: u2 :: u3 :: u4 :: (Value.pointer (some ⟨b, 0, none⟩)) :: u6 :: (Value.map (some mp)) :: (Value.map (some (mp + 1))) :: (Value.map (some (mp + 1 + 1))) :: (Value.map (some (mp + 1 + 1 + 1))) :: (Value.int .i64 d') :: u12 :: (Value.pointer (some ⟨gs, 0, none⟩)) :: (Value.pointer (some ⟨gs + 1, 0, none⟩)) :: v15 :: u16 :: v17 :: u18 :: u19 :: u20 :: u21 :: u22 :: u23 :: u24 :: u25 :: u26 :: u27 :: u28 :: u29 :: u30 :: u31 :: u32 :: u33 :: u34 :: u35 :: u36 :: u37 :: u38 :: u39 :: u40 :: u41 :: u42 :: u43 :: u44 :: u45 :: u46 :: u47 :: u48 :: u49 :: u50 :: u51 :: u52 :: u53 :: u54 :: u55 :: u56 :: u57 :: u58 :: u59 :: (Value.int .i64 sd) :: v61 :: v62 :: v63 :: v64 :: v65 :: v66 :: v67 :: v68 :: v69 :: v70 :: v71 :: v72 :: v73 :: v74 :: v75 :: v76 :: v77 :: v78 :: v79 :: v80 :: v81 :: v82 :: v83 :: v84 :: v85 :: v86 :: v87 :: v88 :: v89 :: v90 :: v91 :: v92 :: v93 :: v94 :: v95 :: v96 :: v97 :: v98 :: v99 :: v100 :: v101 :: v102 :: v103 :: v104 :: v105 :: v106 :: v107 :: v108 :: v109 :: v110 :: v111 :: v112 :: v113 :: v114 :: v115 :: v116 :: v117 :: v118 :: v119 :: v120 :: v121 :: v122 :: v123 :: v124 :: v125 :: v126 :: v127 :: v128 :: v129 :: v130 :: v131 :: v132 :: v133 :: v134 :: v135 :: v136 :: v137 :: v138 :: v139 :: v140 :: v141 :: v142 :: v143 :: v144 :: v145 :: v146 :: v147 :: v148 :: v149 :: v150 :: v151 :: v152 :: v153 :: v154 :: v155 :: v156 :: v157 :: v158 :: v159 :: v160 :: v161 :: v162 :: u163 :: u164 :: u165 :: u166 :: u167 :: u168 :: u169 :: u170 :: u171 :: u172 :: u173 :: u174 :: u175 :: u176 :: u177 :: u178 :: u179 :: u180 :: u181 :: u182 :: u183 :: u184 :: u185 :: u186 :: u187 :: u188 :: u189 :: u190 :: u191 :: u192 :: u193 :: u194 :: u195 :: u196 :: u197 :: u198 :: u199 :: u200 :: u201 :: u202 :: u203 :: u204 :: u205 :: u206 :: u207 :: u208 :: u209 :: u210 :: u211 :: u212 :: u213 :: u214 :: u215 :: u216 :: u217 :: u218 :: u219 :: u220 :: u221 :: u222 :: u223 :: u224 :: u225 :: u226 :: u227 :: u228 :: u229 :: u230 :: u231 :: u232 :: u233 :: u234 :: u235 :: u236 :: u237 :: u238 :: u239 :: u240 :: u241 :: u242 :: u243 :: u244 :: u245 :: u246 :: u247 :: u248 :: u249 :: u250 :: u251 :: u252 :: u253 :: u254 :: u255 :: u256 :: u257 :: u258 :: u259 :: u260 :: u261 :: u262 :: u263 :: u264 :: u265 :: u266 :: u267 :: u268 :: u269 :: u270 :: u271 :: u272 :: u273 :: u274 :: u275 :: u276 :: u277 :: u278 :: u279 :: u280 :: u281 :: u282 :: u283 :: u284 :: u285 :: u286 :: u287 :: u288 :: u289 :: u290 :: u291 :: u292 :: u293 :: u294 :: u295 :: u296 :: u297 :: u298 :: u299 :: u300 :: u301 :: u302 :: u303 :: u304 :: u305 :: u306 :: u307 :: u308 :: u309 :: u310 :: u311 :: u312 :: u313 :: u314 :: u315 :: u316 :: u317 :: u318 :: u319 :: u320 :: u321 :: u322 :: u323 :: u324 :: u325 :: u326 :: u327 :: u328 :: u329 :: u330 :: u331 :: u332 :: u333 :: u334 :: u335 :: u336 :: u337 :: u338 :: u339 :: u340 :: u341 :: u342 :: u343 :: u344 :: u345 :: u346 :: u347 :: u348 :: u349 :: u350 :: []), []⟩ wy) :
    Code.wp Try.prog csSw Q ⟨List.toArray (u0 :: u1 :: u2 :: u3 :: u4 :: (Value.pointer (some ⟨b, 0, none⟩)) :: u6 :: (Value.map (some mp)) :: (Value.map (some (mp + 1))) :: (Value.map (some (mp + 1 + 1))) :: (Value.map (some (mp + 1 + 1 + 1))) :: (Value.int .i64 S.last) :: u12 :: (Value.pointer (some ⟨gs, 0, none⟩)) :: (Value.pointer (some ⟨gs + 1, 0, none⟩)) :: u15 :: u16 :: u17 :: u18 :: u19 :: u20 :: u21 :: u22 :: u23 :: u24 :: u25 :: u26 :: u27 :: u28 :: u29 :: u30 :: u31 :: u32 :: u33 :: u34 :: u35 :: u36 :: u37 :: u38 :: u39 :: u40 :: u41 :: u42 :: u43 :: u44 :: u45 :: u46 :: u47 :: u48 :: u49 :: u50 :: u51 :: u52 :: u53 :: u54 :: u55 :: u56 :: u57 :: u58 :: u59 :: (Value.int .i64 sd) :: u61 :: u62 :: u63 :: u64 :: u65 :: u66 :: u67 :: u68 :: u69 :: u70 :: u71 :: u72 :: u73 :: u74 :: u75 :: u76 :: u77 :: u78 :: u79 :: u80 :: u81 :: u82 :: u83 :: u84 :: u85 :: u86 :: u87 :: u88 :: u89 :: u90 :: u91 :: u92 :: u93 :: u94 :: u95 :: u96 :: u97 :: u98 :: u99 :: u100 :: u101 :: u102 :: u103 :: u104 :: u105 :: u106 :: u107 :: u108 :: u109 :: u110 :: u111 :: u112 :: u113 :: u114 :: u115 :: u116 :: u117 :: u118 :: u119 :: u120 :: u121 :: u122 :: u123 :: u124 :: u125 :: u126 :: u127 :: u128 :: u129 :: u130 :: u131 :: u132 :: u133 :: u134 :: u135 :: u136 :: u137 :: u138 :: u139 :: u140 :: u141 :: u142 :: u143 :: u144 :: u145 :: u146 :: u147 :: u148 :: u149 :: u150 :: u151 :: u152 :: u153 :: u154 :: u155 :: u156 :: u157 :: u158 :: u159 :: u160 :: u161 :: u162 :: u163 :: u164 :: u165 :: u166 :: u167 :: u168 :: u169 :: u170 :: u171 :: u172 :: u173 :: u174 :: u175 :: u176 :: u177 :: u178 :: u179 :: u180 :: u181 :: u182 :: u183 :: u184 :: u185 :: u186 :: u187 :: u188 :: u189 :: u190 :: u191 :: u192 :: u193 :: u194 :: u195 :: u196 :: u197 :: u198 :: u199 :: u200 :: u201 :: u202 :: u203 :: u204 :: u205 :: u206 :: u207 :: u208 :: u209 :: u210 :: u211 :: u212 :: u213 :: u214 :: u215 :: u216 :: u217 :: u218 :: u219 :: u220 :: u221 :: u222 :: u223 :: u224 :: u225 :: u226 :: u227 :: u228 :: u229 :: u230 :: u231 :: u232 :: u233 :: u234 :: u235 :: u236 :: u237 :: u238 :: u239 :: u240 :: u241 :: u242 :: u243 :: u244 :: u245 :: u246 :: u247 :: u248 :: u249 :: u250 :: u251 :: u252 :: u253 :: u254 :: u255 :: u256 :: u257 :: u258 :: u259 :: u260 :: u261 :: u262 :: u263 :: u264 :: u265 :: u266 :: u267 :: u268 :: u269 :: u270 :: u271 :: u272 :: u273 :: u274 :: u275 :: u276 :: u277 :: u278 :: u279 :: u280 :: u281 :: u282 :: u283 :: u284 :: u285 :: u286 :: u287 :: u288 :: u289 :: u290 :: u291 :: u292 :: u293 :: u294 :: u295 :: u296 :: u297 :: u298 :: u299 :: u300 :: u301 :: u302 :: u303 :: u304 :: u305 :: u306 :: u307 :: u308 :: u309 :: u310 :: u311 :: u312 :: u313 :: u314 :: u315 :: u316 :: u317 :: u318 :: u319 :: u320 :: u321 :: u322 :: u323 :: u324 :: u325 :: u326 :: u327 :: u328 :: u329 :: u330 :: u331 :: u332 :: u333 :: u334 :: u335 :: u336 :: u337 :: u338 :: u339 :: u340 :: u341 :: u342 :: u343 :: u344 :: u345 :: u346 :: u347 :: u348 :: u349 :: u350 :: []), []⟩ wx := by
  have HW1 := hide hW1; have HV := hide hV; have HX := hide hX; have HKX := hide hKX; have HNF := hide hNF; have HI := hide hI; have HQQ := hide hQ
  have hNG : ∀ x, F x → x ≠ gs := fun x hx => by have := hNF x hx; omega
  have HNG := hide hNG
  obtain ⟨k0, k1, k2, k3, k4, k5, k6, k7, k8, k9, k10, k11⟩ := stepC hX
  dsimp only at k0 k1 k2 k3 k4 k5 k6 k7 k8 k9 k10 k11
  clear hW1 hV hX hKX hNF hI hQ hNG
  conv => arg 2; whnf
  have b0 : (sd == 0) = true := by rw [hq]; rfl
  obtain ⟨c1, c2, c3, c4, c5, hc⟩ := (unhide HW1).c
  have NP := hide (post_any hc (unhide HV).inv.ok ⟨pf, pd, ps, pt, pa, py⟩ (unhide HI).2.2.1 (unhide HI).2.2.2)
  have HQ := hide hq
  unfold pstV at NP
  dsimp only at NP
  clear hc hq
  go_wp2_with fail
  refine (unhide NP).mono ?_
  rintro e y1 ⟨rfl, F1, z1, z2, z3⟩
  have hX1 : y1.heap[gs]? = some (stepObj ⟨sd, sh, st, sa, sy, sf, ⟨pf, pd, ps, pt, pa, py⟩⟩) := (z2.block gs (blk_lt (unhide HX)) (fun hf => unhide HNG gs hf rfl)).trans (unhide HX)
  obtain ⟨_, _, _, _, _, _, l6, l7, l8, l9, l10, l11⟩ := stepC hX1
  dsimp only at l6 l7 l8 l9 l10 l11
  by_cases he : (postS S ⟨pf, pd, ps, pt, pa, py⟩).1 = 0
  · have hW2 := (unhide HW1).call z1 z2 z3
    obtain ⟨ks, hG⟩ := hW2.mp
    have hsm := (unhide HV).small hG (fun x y h => h)
    have hmx : 100000 < maxLen := by decide
    have hkl : ks.length < maxLen := by omega
    have HA := hide (fun y' ks' hg hC => CsArm.posted (s := ⟨sd, sh, st, sa, sy, sf, ⟨pf, pd, ps, pt, pa, py⟩⟩) (p := ⟨pf, pd, ps, pt, pa, py⟩) (y' := y') (ks := ks') (unhide HW1) (unhide HV) (unhide HX) (unhide HNG) (unhide HQ) he z1 z2 z3 hg hC)
    rw [he]
    have HG := hide hG; have HKL := hide hkl
    clear he hW2 hsm hmx hkl hG z1 z2 z3 NP
    go_wp2_with (at_mapUpdate; refine wpList_gmap_put _ rfl _ _ _ rfl keyK Try.underlying55 rfl (unhide HG) (unhide HKL) ps pt ⟨pf, pd, ps, pt, pa, py⟩ rfl rfl (unhide HI).2.2.1 (unhide HI).2.2.2 ?_; intro y2 hg2 hc2; have HR := hide (unhide HA y2 _ hg2 hc2); obtain ⟨_, _, _, _, _, hX2, _, _⟩ := unhide HR; obtain ⟨_, _, _, _, _, _, _, _, _, _, _, m11⟩ := stepC hX2; dsimp only at m11; clear hX2 hg2 hc2)
    exact unhide HQQ _ _ _ _ _ _ _ _ _ _ _ _ _ _ _ _ _ _ _ _ _ _ _ _ _ _ _ _ _ _ _ _ _ _ _ _ _ _ _ _ _ _ _ _ _ _ _ _ _ _ _ _ _ _ _ _ _ _ _ _ _ _ _ _ _ _ _ _ _ _ _ _ _ _ _ _ _ _ _ _ _ _ _ _ _ _ _ _ _ _ _ _ _ _ _ _ _ _ _ _ _ _ _ _ _ _ (unhide HR)
  · have HR := hide (CsArm.notPosted (s := ⟨sd, sh, st, sa, sy, sf, ⟨pf, pd, ps, pt, pa, py⟩⟩) (p := ⟨pf, pd, ps, pt, pa, py⟩) (unhide HW1) (unhide HV) (unhide HX) (unhide HNG) (unhide HQ) he z1 z2 z3)
    obtain ⟨er, her⟩ : ∃ er, er = (postS S ⟨pf, pd, ps, pt, pa, py⟩).1 := ⟨_, rfl⟩
    rw [← her] at HR he ⊢
    have b0' : (er == 0) = false := by simpa using he
    clear he z1 z2 z3 NP her
    by_cases h6 : er = 6
    · subst h6
      go_wp2_with fail
      exact unhide HQQ _ _ _ _ _ _ _ _ _ _ _ _ _ _ _ _ _ _ _ _ _ _ _ _ _ _ _ _ _ _ _ _ _ _ _ _ _ _ _ _ _ _ _ _ _ _ _ _ _ _ _ _ _ _ _ _ _ _ _ _ _ _ _ _ _ _ _ _ _ _ _ _ _ _ _ _ _ _ _ _ _ _ _ _ _ _ _ _ _ _ _ _ _ _ _ _ _ _ _ _ _ _ _ _ _ _ (unhide HR)
    · by_cases h8 : er = 8
      · subst h8
        go_wp2_with fail
        exact unhide HQQ _ _ _ _ _ _ _ _ _ _ _ _ _ _ _ _ _ _ _ _ _ _ _ _ _ _ _ _ _ _ _ _ _ _ _ _ _ _ _ _ _ _ _ _ _ _ _ _ _ _ _ _ _ _ _ _ _ _ _ _ _ _ _ _ _ _ _ _ _ _ _ _ _ _ _ _ _ _ _ _ _ _ _ _ _ _ _ _ _ _ _ _ _ _ _ _ _ _ _ _ _ _ _ _ _ _ (unhide HR)
      · have b6 : (er == 6) = false := by simpa using h6
        have b8 : (er == 8) = false := by simpa using h8
        have HR2 : Hid (CsArm w y1 b ⟨mp, mp + 1, mp + 1 + 1, mp + 1 + 1 + 1⟩ gs ⟨sd, sh, st, sa, sy, sf, ⟨pf, pd, ps, pt, pa, py⟩⟩ S.last) := hide (by have := unhide HR; rwa [if_neg (fun hh => hh.elim h6 h8)] at this)
        clear h6 h8 HR
        go_wp2_with fail
        exact unhide HQQ _ _ _ _ _ _ _ _ _ _ _ _ _ _ _ _ _ _ _ _ _ _ _ _ _ _ _ _ _ _ _ _ _ _ _ _ _ _ _ _ _ _ _ _ _ _ _ _ _ _ _ _ _ _ _ _ _ _ _ _ _ _ _ _ _ _ _ _ _ _ _ _ _ _ _ _ _ _ _ _ _ _ _ _ _ _ _ _ _ _ _ _ _ _ _ _ _ _ _ _ _ _ _ _ _ _ (unhide HR2)
end Go.Proofs.Ytdameincehiieaa
