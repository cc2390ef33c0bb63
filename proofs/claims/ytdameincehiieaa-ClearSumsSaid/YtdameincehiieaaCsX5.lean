/- ClearSums: the round behind the switch. (Made by wip/drafts/genCs.py.) -/
import Derived.Test.YtdameincehiieaaCsX1
import Derived.Deep.DeepCutAuto
import Derived.Deep.CutBlock
import Derived.Deep.RegionHeld3
namespace Go.Proofs.Ytdameincehiieaa
open Go.RowKit Go.WideMaps Go.Maps
set_option linter.unusedVariables false
set_option linter.unusedSimpArgs false
set_option maxRecDepth 1000000
set_option maxHeartbeats 16000000 in
theorem csRest (w wx : World) (F' : Nat → Prop) (b mp gs k : Nat) (S' : Clr) (H' : Hld) (sd sh st sa sy : Int) (sf : Bool) (pf pd ps pt pa py d' : Int) (Q : Exit → Act → World → Prop)
    (hW2 : CsW w wx F' b S' ⟨mp, mp + 1, mp + 1 + 1, mp + 1 + 1 + 1⟩ H') (hV2 : CsV S' H') (hX2 : wx.heap[gs]? = some (stepObj ⟨sd, sh, st, sa, sy, sf, ⟨pf, pd, ps, pt, pa, py⟩⟩)) (hday : (if 1 ≤ sd ∧ sd ≤ 4 ∧ d' ≤ sy ∧ sy ≤ 65535 then sy else d') = S'.last) (hk : (k : Int) < 9223372036854775807)
    (u0 u1 u2 u3 u4 u6 u12 u14 u15 u16 u17 u18 u19 u20 u21 u22 u23 u24 u25 u26 u27 u28 u29 u30 u31 u32 u33 u34 u35 u36 u37 u38 u39 u40 u41 u42 u43 u44 u45 u46 u47 u48 u49 u51 u52 u53 u54 u55 u56 u57 u58 u59 u60 u61 u62 u63 u64 u65 u66 u67 u68 u69 u70 u71 u72 u73 u74 u75 u76 u77 u78 u79 u80 u81 u82 u83 u84 u85 u86 u87 u88 u89 u90 u91 u92 u93 u94 u95 u96 u97 u98 u99 u100 u101 u102 u103 u104 u105 u106 u107 u108 u109 u110 u111 u112 u113 u114 u115 u116 u117 u118 u119 u120 u121 u122 u123 u124 u125 u126 u127 u128 u129 u130 u131 u132 u133 u134 u135 u136 u137 u138 u139 u140 u141 u142 u143 u144 u145 u146 u147 u148 u149 u150 u151 u152 u153 u154 u155 u156 u157 u158 u159 u160 u161 u162 u163 u164 u165 u166 u167 u168 u169 u170 u171 u172 u173 u174 u175 u176 u177 u178 u179 u180 u181 u182 u183 u184 u185 u186 u187 u188 u189 u190 u191 u192 u193 u194 u195 u196 u197 u198 u199 u200 u201 u202 u203 u204 u205 u206 u207 u208 u209 u210 u211 u212 u213 u214 u215 u216 u217 u218 u219 u220 u221 u222 u223 u224 u225 u226 u227 u228 u229 u230 u231 u232 u233 u234 u235 u236 u237 u238 u239 u240 u241 u242 u243 u244 u245 u246 u247 u248 u249 u250 u251 u252 u253 u254 u255 u256 u257 u258 u259 u260 u261 u262 u263 u264 u265 u266 u267 u268 u269 u270 u271 u272 u273 u274 u275 u276 u277 u278 u279 u280 u281 u282 u283 u284 u285 u286 u287 u288 u289 u290 u291 u292 u293 u294 u295 u296 u297 u298 u299 u300 u301 u302 u303 u304 u305 u306 u307 u308 u309 u310 u311 u312 u313 u314 u315 u316 u317 u318 u319 u320 u321 u322 u323 u324 u325 u326 u327 u328 u329 u330 u331 u332 u333 u334 u335 u336 u337 u338 u339 u340 u341 u342 u343 u344 u345 u346 u347 u348 u349 u350 : Value)
    (hQ : ∀ (wy : World) (v4 v18 v19 v20 v21 v22 v23 v24 v25 v163 v164 v165 v166 v167 v168 v169 v170 v171 v172 v173 v174 v175 v176 v177 v178 v179 v180 v181 v182 v183 v184 v185 v186 v187 v188 v189 v190 v191 v192 v193 v194 v195 v196 v197 v198 v199 v200 v201 v202 v203 v204 v205 v206 v207 v208 v209 v210 v211 v212 v213 v214 v215 v216 v217 v218 v219 v220 v221 v222 v223 v224 v225 v226 v227 v228 v229 v230 v231 v232 v233 v234 v235 v236 v237 v238 v239 v240 v241 v242 v243 v244 v245 v246 v247 v248 v249 v250 v251 v252 v253 v254 v255 v256 v257 v258 v259 v260 v261 : Value), CsA w wy b ⟨mp, mp + 1, mp + 1 + 1, mp + 1 + 1 + 1⟩ S'.last → Q .normal ⟨List.toArray (u0 :: u1 :: u2 :: u3 :: v4 :: (Value.pointer (some ⟨b, 0, none⟩)) :: u6 :: (Value.map (some mp)) :: (Value.map (some (mp + 1))) :: (Value.map (some (mp + 1 + 1))) :: (Value.map (some (mp + 1 + 1 + 1))) :: (Value.int .i64 S'.last) :: u12 :: (Value.pointer (some ⟨gs, 0, none⟩)) :: u14 :: u15 :: u16 :: u17 :: v18 :: v19 :: v20 :: v21 :: v22 :: v23 :: v24 :: v25 :: u26 :: u27 :: u28 :: u29 :: u30 :: u31 :: u32 :: u33 :: u34 :: u35 :: u36 :: u37 :: u38 :: u39 :: u40 :: u41 :: u42 :: u43 :: u44 :: u45 :: u46 :: u47 :: u48 :: u49 :: (Value.int .i64 (k : Int)) :: u51 :: u52 :: u53 :: u54 :: u55 :: u56 :: u57 :: u58 :: u59 :: u60 :: u61 :: u62 :: u63 :: u64 :: u65 :: u66 :: u67 :: u68 :: u69 :: u70 :: u71 :: u72 :: u73 :: u74 :: u75 :: u76 :: u77 :: u78 :: u79 :: u80 :: u81 :: u82 :: u83 :: u84 :: u85 :: u86 :: u87 :: u88 :: u89 :: u90 :: u91 :: u92 :: u93 :: u94 :: u95 :: u96 :: u97 :: u98 :: u99 :: u100 :: u101 :: u102 :: u103 :: u104 :: u105 :: u106 :: u107 :: u108 :: u109 :: u110 :: u111 :: u112 :: u113 :: u114 :: u115 :: u116 :: u117 :: u118 :: u119 :: u120 :: u121 :: u122 :: u123 :: u124 :: u125 :: u126 :: u127 :: u128 :: u129 :: u130 :: u131 :: u132 :: u133 :: u134 :: u135 :: u136 :: u137 :: u138 :: u139 :: u140 :: u141 :: u142 :: u143 :: u144 :: u145 :: u146 :: u147 :: u148 :: u149 :: u150 :: u151 :: u152 :: u153 :: u154 :: u155 :: u156 :: u157 :: u158 :: u159 :: u160 :: u161 :: u162 :: v163 :: v164 :: v165 :: v166 :: v167 :: v168 :: v169 :: v170 :: v171 :: v172 :: v173 :: v174 :: v175 :: v176 :: v177 :: v178 :: v179 :: v180 :: v181 :: v182 :: v183 :: v184 :: v185 :: v186 :: v187 :: v188 :: v189 :: v190 :: v191 :: v192 :: v193 :: v194 :: v195 :: v196 :: v197 :: v198 :: v199 :: v200 :: v201 :: v202 :: v203 :: v204 :: v205 :: v206 :: v207 :: v208 :: v209 :: v210 :: v211 :: v212 :: v213 :: v214 :: v215 :: v216 :: v217 :: v218 :: v219 :: v220 :: v221 :: v222 :: v223 :: v224 :: v225 :: v226 :: v227 :: v228 :: v229 :: v230 :: v231 :: v232 :: v233 :: v234 :: v235 :: v236 :: v237 :: v238 :: v239 :: v240 :: v241 :: v242 :: v243 :: v244 :: v245 :: v246 :: v247 :: v248 :: v249 :: v250 :: v251 :: v252 :: v253 :: v254 :: v255 :: v256 :: v257 :: v258 :: v259 :: v260 :: v261 :: u262 :: u263 :: u264 :: u265 :: u266 :: u267 :: u268 :: u269 :: u270 :: u271 :: u272 :: u273 :: u274 :: u275 :: u276 :: u277 :: u278 :: u279 :: u280 :: u281 :: u282 :: u283 :: u284 :: u285 :: u286 :: u287 :: u288 :: u289 :: u290 :: u291 :: u292 :: u293 :: u294 :: u295 :: u296 :: u297 :: u298 :: u299 :: u300 :: u301 :: u302 :: u303 :: u304 :: u305 :: u306 :: u307 :: u308 :: u309 :: u310 :: u311 :: u312 :: u313 :: u314 :: u315 :: u316 :: u317 :: u318 :: u319 :: u320 :: u321 :: u322 :: u323 :: u324 :: u325 :: u326 :: u327 :: u328 :: u329 :: u330 :: u331 :: u332 :: u333 :: u334 :: u335 :: u336 :: u337 :: u338 :: u339 :: u340 :: u341 :: u342 :: u343 :: u344 :: u345 :: u346 :: u347 :: u348 :: u349 :: u350 :: []), []⟩ wy) :
    Code.wp Try.prog csRs Q ⟨List.toArray (u0 :: u1 :: u2 :: u3 :: u4 :: (Value.pointer (some ⟨b, 0, none⟩)) :: u6 :: (Value.map (some mp)) :: (Value.map (some (mp + 1))) :: (Value.map (some (mp + 1 + 1))) :: (Value.map (some (mp + 1 + 1 + 1))) :: (Value.int .i64 d') :: u12 :: (Value.pointer (some ⟨gs, 0, none⟩)) :: u14 :: u15 :: u16 :: u17 :: u18 :: u19 :: u20 :: u21 :: u22 :: u23 :: u24 :: u25 :: u26 :: u27 :: u28 :: u29 :: u30 :: u31 :: u32 :: u33 :: u34 :: u35 :: u36 :: u37 :: u38 :: u39 :: u40 :: u41 :: u42 :: u43 :: u44 :: u45 :: u46 :: u47 :: u48 :: u49 :: (Value.int .i64 (k : Int)) :: u51 :: u52 :: u53 :: u54 :: u55 :: u56 :: u57 :: u58 :: u59 :: u60 :: u61 :: u62 :: u63 :: u64 :: u65 :: u66 :: u67 :: u68 :: u69 :: u70 :: u71 :: u72 :: u73 :: u74 :: u75 :: u76 :: u77 :: u78 :: u79 :: u80 :: u81 :: u82 :: u83 :: u84 :: u85 :: u86 :: u87 :: u88 :: u89 :: u90 :: u91 :: u92 :: u93 :: u94 :: u95 :: u96 :: u97 :: u98 :: u99 :: u100 :: u101 :: u102 :: u103 :: u104 :: u105 :: u106 :: u107 :: u108 :: u109 :: u110 :: u111 :: u112 :: u113 :: u114 :: u115 :: u116 :: u117 :: u118 :: u119 :: u120 :: u121 :: u122 :: u123 :: u124 :: u125 :: u126 :: u127 :: u128 :: u129 :: u130 :: u131 :: u132 :: u133 :: u134 :: u135 :: u136 :: u137 :: u138 :: u139 :: u140 :: u141 :: u142 :: u143 :: u144 :: u145 :: u146 :: u147 :: u148 :: u149 :: u150 :: u151 :: u152 :: u153 :: u154 :: u155 :: u156 :: u157 :: u158 :: u159 :: u160 :: u161 :: u162 :: u163 :: u164 :: u165 :: u166 :: u167 :: u168 :: u169 :: u170 :: u171 :: u172 :: u173 :: u174 :: u175 :: u176 :: u177 :: u178 :: u179 :: u180 :: u181 :: u182 :: u183 :: u184 :: u185 :: u186 :: u187 :: u188 :: u189 :: u190 :: u191 :: u192 :: u193 :: u194 :: u195 :: u196 :: u197 :: u198 :: u199 :: u200 :: u201 :: u202 :: u203 :: u204 :: u205 :: u206 :: u207 :: u208 :: u209 :: u210 :: u211 :: u212 :: u213 :: u214 :: u215 :: u216 :: u217 :: u218 :: u219 :: u220 :: u221 :: u222 :: u223 :: u224 :: u225 :: u226 :: u227 :: u228 :: u229 :: u230 :: u231 :: u232 :: u233 :: u234 :: u235 :: u236 :: u237 :: u238 :: u239 :: u240 :: u241 :: u242 :: u243 :: u244 :: u245 :: u246 :: u247 :: u248 :: u249 :: u250 :: u251 :: u252 :: u253 :: u254 :: u255 :: u256 :: u257 :: u258 :: u259 :: u260 :: u261 :: u262 :: u263 :: u264 :: u265 :: u266 :: u267 :: u268 :: u269 :: u270 :: u271 :: u272 :: u273 :: u274 :: u275 :: u276 :: u277 :: u278 :: u279 :: u280 :: u281 :: u282 :: u283 :: u284 :: u285 :: u286 :: u287 :: u288 :: u289 :: u290 :: u291 :: u292 :: u293 :: u294 :: u295 :: u296 :: u297 :: u298 :: u299 :: u300 :: u301 :: u302 :: u303 :: u304 :: u305 :: u306 :: u307 :: u308 :: u309 :: u310 :: u311 :: u312 :: u313 :: u314 :: u315 :: u316 :: u317 :: u318 :: u319 :: u320 :: u321 :: u322 :: u323 :: u324 :: u325 :: u326 :: u327 :: u328 :: u329 :: u330 :: u331 :: u332 :: u333 :: u334 :: u335 :: u336 :: u337 :: u338 :: u339 :: u340 :: u341 :: u342 :: u343 :: u344 :: u345 :: u346 :: u347 :: u348 :: u349 :: u350 :: []), []⟩ wx := by
  obtain ⟨k0, k1, k2, k3, k4, k5, k6, k7, k8, k9, k10, k11⟩ := stepC hX2
  dsimp only at k0 k4
  have HW2 := hide hW2; have HV2 := hide hV2; have HDY := hide hday; have HQQ := hide hQ
  clear hW2 hV2 hday hX2 hQ k1 k2 k3 k5 k6 k7 k8 k9 k10 k11
  conv => arg 2; whnf
  obtain ⟨tb, htb⟩ : ∃ tb, tb = decide (1 ≤ sd ∧ sd ≤ 4 ∧ d' ≤ sy ∧ sy ≤ 65535) := ⟨_, rfl⟩
  have HT1 : Hid (1 ≤ sd → sd ≤ 4 → d' ≤ sy → sy ≤ 65535 → true = tb) := hide (fun h1 h2 h3 h4 => by rw [htb, decide_eq_true ⟨h1, h2, h3, h4⟩])
  have HT0 : Hid (¬ (1 ≤ sd ∧ sd ≤ 4 ∧ d' ≤ sy ∧ sy ≤ 65535) → false = tb) := hide (fun h => by rw [htb, decide_eq_false h])
  have HD1 : Hid (tb = true → sy = S'.last) := hide (fun h => by have := unhide HDY; rwa [if_pos (of_decide_eq_true (htb ▸ h))] at this)
  have HD0' : Hid (tb = false → d' = S'.last) := hide (fun h => by have := unhide HDY; rwa [if_neg (of_decide_eq_false (htb ▸ h))] at this)
  clear htb HDY
  go_upto_region 34 with fail
  go_cut [181] from 163 to 180 (fun cv wy => cv = .bool tb ∧ wy = wx)
  case first =>
    by_cases t1 : 1 ≤ sd
    · by_cases t2 : sd ≤ 4
      · by_cases t3 : d' ≤ sy
        · by_cases t4 : sy ≤ 65535
          · have HE2 := hide (unhide HT1 t1 t2 t3 t4)
            go_wp2_with fail
            go_meet
            exact ⟨congrArg Value.bool (unhide HE2), rfl⟩
          · have HE2 := hide (unhide HT0 (fun hh => t4 hh.2.2.2))
            go_wp2_with fail
            go_meet
            exact ⟨congrArg Value.bool (unhide HE2), rfl⟩
        · have HE2 := hide (unhide HT0 (fun hh => t3 hh.2.2.1))
          go_wp2_with fail
          go_meet
          exact ⟨congrArg Value.bool (unhide HE2), rfl⟩
      · have HE2 := hide (unhide HT0 (fun hh => t2 hh.2.1))
        go_wp2_with fail
        go_meet
        exact ⟨congrArg Value.bool (unhide HE2), rfl⟩
    · have HE2 := hide (unhide HT0 (fun hh => t1 hh.1))
      go_wp2_with fail
      go_meet
      exact ⟨congrArg Value.bool (unhide HE2), rfl⟩
  case rest =>
  obtain ⟨rfl, hwy⟩ := hcut
  have hwy' := hwy.symm
  subst hwy'
  clear HT1 HT0
  go_upto_if 181 with fail
  go_cut [11] from 182 to 183 (fun dv wy => dv = .int .i64 S'.last ∧ wy = wx)
  case first =>
    cases tb with
    | true =>
      have HE2 := hide (unhide HD1 rfl)
      go_wp2_with fail
      go_meet
      exact ⟨by rw [unhide HE2], rfl⟩
    | false =>
      have HE2 := hide (unhide HD0' rfl)
      go_wp2_with fail
      go_meet
      exact ⟨by rw [unhide HE2], rfl⟩
  case rest =>
  obtain ⟨rfl, hwy⟩ := hcut
  have hwy' := hwy.symm
  subst hwy'
  clear HD1 HD0' k0 k4
  obtain ⟨kd0, hGd0⟩ := (unhide HW2).md
  go_wp2_with (at_range; refine wpList_range_g _ rfl _ rfl keyK Try.underlying57 rfl hGd0 ?_; intro w0 hrg0 hg0 hs0)
  (try go_frame)
  have HD0 : Hid (CsD w w0 F' b S' ⟨mp, mp + 1, mp + 1 + 1, mp + 1 + 1 + 1⟩ H' wx.heap.size []) := hide (CsD.start (unhide HW2) hrg0 hg0)
  clear hrg0 hg0 hs0 hGd0 HW2
  obtain ⟨r1, hr1⟩ : ∃ r1, r1 = wx.heap.size := ⟨_, rfl⟩
  rw [← hr1] at HD0 ⊢
  clear hr1
  go_loopw [] (fun wq => ∃ vis, CsD w wq F' b S' ⟨mp, mp + 1, mp + 1 + 1, mp + 1 + 1 + 1⟩ H' r1 vis) (fun wq => wq.rangeLeft (mp + 1 + 1) r1)
  case atStart => exact ⟨[], unhide HD0⟩
  case round =>
    obtain ⟨vis, hT⟩ := hrel
    rename World => wq
    have HT := hide hT
    have hrg := hT.hr
    clear hT HD0
    go_wp2_with (at_next; refine wpList_next_g _ rfl _ rfl r1 vis keyK rfl hrg ?_ ?_)
    · intro hall
      clear hall hrg
      obtain ⟨kp0, hGp0⟩ := (unhide HT).hW.mp
      (try go_frame)
      go_wp2_with (at_range; refine wpList_range_g _ rfl _ rfl keyK Try.underlying55 rfl hGp0 ?_; intro w0 hrg0 hg0 hs0)
      (try go_frame)
      have HE0 : Hid (CsE w w0 F' b S' ⟨mp, mp + 1, mp + 1 + 1, mp + 1 + 1 + 1⟩ H' wq.heap.size []) := hide (CsE.start (unhide HT).hW hrg0 hg0)
      clear hrg0 hg0 hs0 hGp0 HT
      obtain ⟨r2, hr2⟩ : ∃ r2, r2 = wq.heap.size := ⟨_, rfl⟩
      rw [← hr2] at HE0 ⊢
      clear hr2
      go_loopw [] (fun wz => ∃ vis N', CsE w wz F' b S' ⟨mp, mp + 1, mp + 1 + 1, mp + 1 + 1 + 1⟩ { H' with N := N' } r2 vis ∧ CsV S' { H' with N := N' }) (fun wz => wz.rangeLeft mp r2)
      case atStart => exact ⟨[], H'.N, unhide HE0, unhide HV2⟩
      case round =>
        obtain ⟨vis, N', hE, hVE⟩ := hrel
        have HE := hide hE; have HVE := hide hVE
        have hrg := hE.hr
        clear hE hVE HE0
        go_wp2_with (at_next; refine wpList_next_g _ rfl _ rfl r2 vis keyK rfl hrg ?_ ?_)
        · intro hall
          have HAA : Hid (CsA w wr b ⟨mp, mp + 1, mp + 1 + 1, mp + 1 + 1 + 1⟩ S'.last) := hide ⟨F', S', _, rfl, (unhide HE).hW, unhide HVE⟩
          clear hall hrg HE HVE
          (try go_frame)
          go_wp2
          exact unhide HQQ _ _ _ _ _ _ _ _ _ _ _ _ _ _ _ _ _ _ _ _ _ _ _ _ _ _ _ _ _ _ _ _ _ _ _ _ _ _ _ _ _ _ _ _ _ _ _ _ _ _ _ _ _ _ _ _ _ _ _ _ _ _ _ _ _ _ _ _ _ _ _ _ _ _ _ _ _ _ _ _ _ _ _ _ _ _ _ _ _ _ _ _ _ _ _ _ _ _ _ _ _ _ _ _ _ _ _ _ _ (unhide HAA)
        · intro a b' p w3 ra rb hgp hnv hrg3 hlt3 hgr3 hsz3 hen3
          have HU := hide ((unhide HE).next hrg3 hgr3)
          have HLT := hide hlt3
          obtain ⟨kk, hkm, hkp, hkk, hlk⟩ := (unhide HVE).inv.look hgp
          have NL := hide (fun W (hb : Below w3.heap.size w3 W) => by
            obtain ⟨c1, c2, c3, c4, c5, hc⟩ := ((unhide HU).below hb).hW.c
            exact lookC hc (unhide HVE).inv.ok a b' S'.last ra rb)
          have hjt := (unhide HVE).test hkm hkk rfl
          have HDN := hide (fun h6 => (unhide HVE).done hkm hkk h6)
          obtain ⟨oc, hoc⟩ : ∃ oc, oc = onC S'.D kk.c S'.last := ⟨_, rfl⟩
          have hpd : oc.paid = kk.c.paid := by rw [hoc]; exact (on_paid _ _ _).1
          have hdd : oc.disp = kk.c.disp := by rw [hoc]; exact (on_paid _ _ _).2
          obtain ⟨_, _, _, hkb, hkc, hkd, hke, _⟩ := ((unhide HVE).inv.ok.each kk hkm).1
          have hka := of_decide_eq_false ((unhide HVE).inv.ok.each kk hkm).2.1
          rw [hlk, ← hoc] at NL
          rw [← hoc] at HDN
          rw [← hpd, ← hdd] at hjt
          have hwb : IntKind.i64.wrap (kk.p.amt - oc.disp) = kk.p.amt - oc.disp := by
            rw [IntKind.wrap_i64]; omega
          clear hoc hpd hdd hkb hkc hkd hke hka
          subst hkp
          have HJT := hide hjt
          clear hrg hrg3 hlt3 hgr3 hnv hgp hlk hkm hkk HE hjt
          unfold twoV at hen3
          rw [rdP_val] at hen3
          unfold pstV at hen3
          rw [rdP_val]
          unfold twoV pstV
          unfold caseV at NL
          obtain ⟨os, oi, od, op⟩ := oc
          dsimp only at NL hwb
          (try go_frame)
          have hB2 : Below w3.heap.size w3 ((w3.alloc (.cells #[.int .i64 a, .int .i64 b'] 60)).alloc (.cells #[.int .i64 kk.p.frm, .int .i64 kk.p.to, .int .i64 kk.p.shop, .int .i64 kk.p.trace, .int .i64 kk.p.amt, .int .i64 kk.p.day] 36)) := ((Below.refl _ _).alloc (Nat.le_refl _) _).alloc (by simp) _
          have HX := hide (alloc_at (w3.alloc (.cells #[.int .i64 a, .int .i64 b'] 60)) (.cells #[.int .i64 kk.p.frm, .int .i64 kk.p.to, .int .i64 kk.p.shop, .int .i64 kk.p.trace, .int .i64 kk.p.amt, .int .i64 kk.p.day] 36))
          have HY : Hid (((w3.alloc (.cells #[.int .i64 a, .int .i64 b'] 60)).alloc (.cells #[.int .i64 kk.p.frm, .int .i64 kk.p.to, .int .i64 kk.p.shop, .int .i64 kk.p.trace, .int .i64 kk.p.amt, .int .i64 kk.p.day] 36)).heap[w3.heap.size]? = some (.cells #[.int .i64 a, .int .i64 b'] 60)) := hide ((((Below.refl (w3.alloc (.cells #[.int .i64 a, .int .i64 b'] 60)).heap.size (w3.alloc (.cells #[.int .i64 a, .int .i64 b'] 60))).alloc (Nat.le_refl _) _).block w3.heap.size (by simp)).trans (alloc_at w3 _))
          go_wp2_with fail
          refine (unhide NL _ hB2).mono ?_
          rintro e y3 ⟨rfl, hy3⟩
          have hx3 := (hy3.block _ (blk_lt (unhide HX))).trans (unhide HX)
          have hx4 := (hy3.block _ (blk_lt (unhide HY))).trans (unhide HY)
          have hsx : (w3.alloc (.cells #[.int .i64 a, .int .i64 b'] 60)).heap.size = w3.heap.size + 1 := by simp
          rw [hsx, hsz3] at hx3
          rw [hsz3] at hx4
          have f4 : y3.cell? ⟨wr.heap.size + 1, 4, none⟩ = some (.int .i64 kk.p.amt) := by simp [World.cell?, hx3]
          have e0 : y3.cell? ⟨wr.heap.size, 0, none⟩ = some (.int .i64 a) := by simp [World.cell?, hx4]
          have e1 : y3.cell? ⟨wr.heap.size, 1, none⟩ = some (.int .i64 b') := by simp [World.cell?, hx4]
          have hfx : wr.heap.size + 1 < y3.heap.size := blk_lt hx3
          have hfy : wr.heap.size < y3.heap.size := blk_lt hx4
          have hB3 := hB2.trans (hy3.mono hB2.size)
          have hB4 : Below w3.heap.size w3 (y3.alloc (.cells #[.int .i64 os, .int .i64 oi, .int .i64 od, .int .i64 op] 47)) := hB3.alloc hB3.size _
          have hU4 := (unhide HU).below hB4
          have hLF : (y3.alloc (.cells #[.int .i64 os, .int .i64 oi, .int .i64 od, .int .i64 op] 47)).rangeLeft mp r2 = w3.rangeLeft mp r2 := (unhide HU).left hB4
          obtain ⟨kj, hGj⟩ := hU4.hW.mj
          have hlj := hGj.look keyK Try.underlying56 zeroI a b' ra rb
          rw [rdI_val] at hlj
          unfold twoV at hlj
          have HU4 := hide hU4; have HLF := hide hLF
          dsimp only at hlj
          clear hB4 hB3 hB2 hx3 hx4 hsx hy3 hU4 hLF hGj NL HU
          obtain ⟨jn, hjn⟩ : ∃ jn, jn = (H'.J a b').getD 0 := ⟨_, rfl⟩
          rw [← hjn] at hlj
          have HJ2 : Hid (jn = 1 ∨ (jn = 0 ∧ (op = kk.p.amt ∨ op = kk.p.amt - od))) := hide (hjn ▸ unhide HJT)
          clear hjn HJT
          -- the test, then the store
          go_upto_region 46 with fail
          go_cut [255] from 225 to 254 (fun cv wy => cv = .bool false ∧ wy = y3.alloc (.cells #[.int .i64 os, .int .i64 oi, .int .i64 od, .int .i64 op] 47))
          case first =>
            rcases unhide HJ2 with hj | ⟨hj, hj2⟩
            · subst hj
              go_wp2_with fail
              go_meet
              exact ⟨rfl, rfl⟩
            · subst hj
              by_cases h1 : op = kk.p.amt
              · have bq : (op != kk.p.amt) = false := by simpa using h1
                clear h1 hj2
                go_wp2_with fail
                go_meet
                exact ⟨rfl, rfl⟩
              · have bq : (op != kk.p.amt) = true := by simpa using h1
                have br : (op != kk.p.amt - od) = false := by simpa using hj2.resolve_left h1
                clear h1 hj2
                go_wp2_with fail
                go_meet
                exact ⟨rfl, rfl⟩
          case rest =>
          obtain ⟨rfl, hwy⟩ := hcut
          subst hwy
          by_cases h6 : os = 6
          · obtain ⟨kd, hGd⟩ := (unhide HU4).hW.md
            have hsm := (unhide HVE).small hGd (fun x y h => (unhide HVE).inv.dnG x y h)
            have hmx : 100000 < maxLen := by decide
            have hkl : kd.length < maxLen := by omega
            have HDN2 := hide (unhide HDN h6)
            have b6 : (os == 6) = true := by simpa using h6
            have HGD := hide hGd; have HKL := hide hkl
            clear hsm hmx hkl hGd h6 HDN
            go_wp2_with (at_mapUpdate; refine wpList_gmap_put _ rfl _ _ _ rfl keyK Try.underlying57 rfl (unhide HGD) (unhide HKL) a b' ⟨os, oi, od, op⟩ rfl rfl ra rb ?_; intro y5 hg5 hc5)
            have HP := hide ((unhide HU4).put hg5 hc5)
            clear hg5 hc5
            (try go_frame)
            go_wp2
            go_roundw
            case rel => exact ⟨_, _, (unhide HP).1, unhide HDN2⟩
            case measure => rw [(unhide HP).2, unhide HLF]; exact unhide HLT
          · have b6 : (os == 6) = false := by simpa using h6
            clear h6 HDN
            go_wp2
            go_roundw
            case rel => exact ⟨_, _, unhide HU4, unhide HVE⟩
            case measure => rw [unhide HLF]; exact unhide HLT
    · intro a b' p w3 ra rb hgp hnv hrg3 hlt3 hgr3 hsz3 hen3
      have HU := hide ((unhide HT).next hrg3 hgr3)
      have HLT := hide hlt3
      have hlk := (unhide HV2).inv.look_done hgp
      have NL := hide (fun W (hb : Below w3.heap.size w3 W) => by
        obtain ⟨c1, c2, c3, c4, c5, hc⟩ := ((unhide HU).below hb).hW.c
        exact lookC hc (unhide HV2).inv.ok a b' S'.last ra rb)
      rw [hlk] at NL
      clear hrg hrg3 hlt3 hgr3 hnv hgp hlk HT
      unfold twoV at hen3
      rw [rdC_val] at hen3
      unfold caseV at hen3
      rw [rdC_val]
      unfold twoV caseV
      unfold caseV at NL
      obtain ⟨os, oi, od, op⟩ := p
      dsimp only at NL hen3 ⊢
      (try go_frame)
      have hB2 : Below w3.heap.size w3 ((w3.alloc (.cells #[.int .i64 a, .int .i64 b'] 60)).alloc (.cells #[.int .i64 os, .int .i64 oi, .int .i64 od, .int .i64 op] 47)) := ((Below.refl _ _).alloc (Nat.le_refl _) _).alloc (by simp) _
      have HX := hide (alloc_at (w3.alloc (.cells #[.int .i64 a, .int .i64 b'] 60)) (.cells #[.int .i64 os, .int .i64 oi, .int .i64 od, .int .i64 op] 47))
      go_wp2_with fail
      refine (unhide NL _ hB2).mono ?_
      rintro e y3 ⟨rfl, hy3⟩
      have hx3 := (hy3.block _ (blk_lt (unhide HX))).trans (unhide HX)
      have hsx : (w3.alloc (.cells #[.int .i64 a, .int .i64 b'] 60)).heap.size = w3.heap.size + 1 := by simp
      rw [hsx, hsz3] at hx3
      have f0 : y3.cell? ⟨wq.heap.size + 1, 0, none⟩ = some (.int .i64 os) := by simp [World.cell?, hx3]
      have f1 : y3.cell? ⟨wq.heap.size + 1, 1, none⟩ = some (.int .i64 oi) := by simp [World.cell?, hx3]
      have f2 : y3.cell? ⟨wq.heap.size + 1, 2, none⟩ = some (.int .i64 od) := by simp [World.cell?, hx3]
      have f3 : y3.cell? ⟨wq.heap.size + 1, 3, none⟩ = some (.int .i64 op) := by simp [World.cell?, hx3]
      have hfx : wq.heap.size + 1 < y3.heap.size := blk_lt hx3
      have hB3 := hB2.trans (hy3.mono hB2.size)
      have hB4 : Below w3.heap.size w3 (y3.alloc (.cells #[.int .i64 os, .int .i64 oi, .int .i64 od, .int .i64 op] 47)) := hB3.alloc hB3.size _
      have HU4 := hide ((unhide HU).below hB4)
      have HLF : Hid ((y3.alloc (.cells #[.int .i64 os, .int .i64 oi, .int .i64 od, .int .i64 op] 47)).rangeLeft (mp + 1 + 1) r1 = w3.rangeLeft (mp + 1 + 1) r1) := hide ((unhide HU).left hB4)
      clear hB4 hB3 hB2 hx3 hsx hy3 NL HU
      go_wp2
      go_roundw
      case rel => exact ⟨_, unhide HU4⟩
      case measure => rw [unhide HLF]; exact unhide HLT
end Go.Proofs.Ytdameincehiieaa
