/- ClearSums: all behind the main loop. (Made by wip/drafts/genCs.py.) -/
import Derived.Test.YtdameincehiieaaCsX1
import Derived.Deep.DeepCutAuto
import Derived.Deep.CutBlock
import Derived.Deep.RegionHeld3
namespace Go.Proofs.Ytdameincehiieaa
open Go.RowKit Go.WideMaps Go.Maps
set_option linter.unusedVariables false
set_option linter.unusedSimpArgs false
set_option maxRecDepth 1000000
set_option maxHeartbeats 16000000 in
theorem csTail (w wr : World) (F : Nat → Prop) (b mp : Nat) (S : Clr) (H : Hld) (hW : CsW w wr F b S ⟨mp, mp + 1, mp + 1 + 1, mp + 1 + 1 + 1⟩ H) (hV : CsV S H)
    (u0 u1 u2 u3 u4 u6 u12 u13 u14 u15 u16 u17 u18 u19 u20 u21 u22 u23 u24 u25 u26 u27 u28 u29 u30 u31 u32 u33 u34 u35 u36 u37 u38 u39 u40 u41 u42 u43 u44 u45 u46 u47 u48 u49 u50 u51 u52 u53 u54 u55 u56 u57 u58 u59 u60 u61 u62 u63 u64 u65 u66 u67 u68 u69 u70 u71 u72 u73 u74 u75 u76 u77 u78 u79 u80 u81 u82 u83 u84 u85 u86 u87 u88 u89 u90 u91 u92 u93 u94 u95 u96 u97 u98 u99 u100 u101 u102 u103 u104 u105 u106 u107 u108 u109 u110 u111 u112 u113 u114 u115 u116 u117 u118 u119 u120 u121 u122 u123 u124 u125 u126 u127 u128 u129 u130 u131 u132 u133 u134 u135 u136 u137 u138 u139 u140 u141 u142 u143 u144 u145 u146 u147 u148 u149 u150 u151 u152 u153 u154 u155 u156 u157 u158 u159 u160 u161 u162 u163 u164 u165 u166 u167 u168 u169 u170 u171 u172 u173 u174 u175 u176 u177 u178 u179 u180 u181 u182 u183 u184 u185 u186 u187 u188 u189 u190 u191 u192 u193 u194 u195 u196 u197 u198 u199 u200 u201 u202 u203 u204 u205 u206 u207 u208 u209 u210 u211 u212 u213 u214 u215 u216 u217 u218 u219 u220 u221 u222 u223 u224 u225 u226 u227 u228 u229 u230 u231 u232 u233 u234 u235 u236 u237 u238 u239 u240 u241 u242 u243 u244 u245 u246 u247 u248 u249 u250 u251 u252 u253 u254 u255 u256 u257 u258 u259 u260 u261 u262 u263 u264 u265 u266 u267 u268 u269 u270 u271 u272 u273 u274 u275 u276 u277 u278 u279 u280 u281 u282 u283 u284 u285 u286 u287 u288 u289 u290 u291 u292 u293 u294 u295 u296 u297 u298 u299 u300 u301 u302 u303 u304 u305 u306 u307 u308 u309 u310 u311 u312 u313 u314 u315 u316 u317 u318 u319 u320 u321 u322 u323 u324 u325 u326 u327 u328 u329 u330 u331 u332 u333 u334 u335 u336 u337 u338 u339 u340 u341 u342 u343 u344 u345 u346 u347 u348 u349 u350 : Value) :
    Code.wp Try.prog csTl (bodyPost Try.prog Try.f4 (fun e w' => e = .returned (.bool true) ∧ Below w.heap.size w w')) ⟨List.toArray (u0 :: u1 :: u2 :: u3 :: u4 :: (Value.pointer (some ⟨b, 0, none⟩)) :: u6 :: (Value.map (some mp)) :: (Value.map (some (mp + 1))) :: (Value.map (some (mp + 1 + 1))) :: (Value.map (some (mp + 1 + 1 + 1))) :: (Value.int .i64 S.last) :: u12 :: u13 :: u14 :: u15 :: u16 :: u17 :: u18 :: u19 :: u20 :: u21 :: u22 :: u23 :: u24 :: u25 :: u26 :: u27 :: u28 :: u29 :: u30 :: u31 :: u32 :: u33 :: u34 :: u35 :: u36 :: u37 :: u38 :: u39 :: u40 :: u41 :: u42 :: u43 :: u44 :: u45 :: u46 :: u47 :: u48 :: u49 :: u50 :: u51 :: u52 :: u53 :: u54 :: u55 :: u56 :: u57 :: u58 :: u59 :: u60 :: u61 :: u62 :: u63 :: u64 :: u65 :: u66 :: u67 :: u68 :: u69 :: u70 :: u71 :: u72 :: u73 :: u74 :: u75 :: u76 :: u77 :: u78 :: u79 :: u80 :: u81 :: u82 :: u83 :: u84 :: u85 :: u86 :: u87 :: u88 :: u89 :: u90 :: u91 :: u92 :: u93 :: u94 :: u95 :: u96 :: u97 :: u98 :: u99 :: u100 :: u101 :: u102 :: u103 :: u104 :: u105 :: u106 :: u107 :: u108 :: u109 :: u110 :: u111 :: u112 :: u113 :: u114 :: u115 :: u116 :: u117 :: u118 :: u119 :: u120 :: u121 :: u122 :: u123 :: u124 :: u125 :: u126 :: u127 :: u128 :: u129 :: u130 :: u131 :: u132 :: u133 :: u134 :: u135 :: u136 :: u137 :: u138 :: u139 :: u140 :: u141 :: u142 :: u143 :: u144 :: u145 :: u146 :: u147 :: u148 :: u149 :: u150 :: u151 :: u152 :: u153 :: u154 :: u155 :: u156 :: u157 :: u158 :: u159 :: u160 :: u161 :: u162 :: u163 :: u164 :: u165 :: u166 :: u167 :: u168 :: u169 :: u170 :: u171 :: u172 :: u173 :: u174 :: u175 :: u176 :: u177 :: u178 :: u179 :: u180 :: u181 :: u182 :: u183 :: u184 :: u185 :: u186 :: u187 :: u188 :: u189 :: u190 :: u191 :: u192 :: u193 :: u194 :: u195 :: u196 :: u197 :: u198 :: u199 :: u200 :: u201 :: u202 :: u203 :: u204 :: u205 :: u206 :: u207 :: u208 :: u209 :: u210 :: u211 :: u212 :: u213 :: u214 :: u215 :: u216 :: u217 :: u218 :: u219 :: u220 :: u221 :: u222 :: u223 :: u224 :: u225 :: u226 :: u227 :: u228 :: u229 :: u230 :: u231 :: u232 :: u233 :: u234 :: u235 :: u236 :: u237 :: u238 :: u239 :: u240 :: u241 :: u242 :: u243 :: u244 :: u245 :: u246 :: u247 :: u248 :: u249 :: u250 :: u251 :: u252 :: u253 :: u254 :: u255 :: u256 :: u257 :: u258 :: u259 :: u260 :: u261 :: u262 :: u263 :: u264 :: u265 :: u266 :: u267 :: u268 :: u269 :: u270 :: u271 :: u272 :: u273 :: u274 :: u275 :: u276 :: u277 :: u278 :: u279 :: u280 :: u281 :: u282 :: u283 :: u284 :: u285 :: u286 :: u287 :: u288 :: u289 :: u290 :: u291 :: u292 :: u293 :: u294 :: u295 :: u296 :: u297 :: u298 :: u299 :: u300 :: u301 :: u302 :: u303 :: u304 :: u305 :: u306 :: u307 :: u308 :: u309 :: u310 :: u311 :: u312 :: u313 :: u314 :: u315 :: u316 :: u317 :: u318 :: u319 :: u320 :: u321 :: u322 :: u323 :: u324 :: u325 :: u326 :: u327 :: u328 :: u329 :: u330 :: u331 :: u332 :: u333 :: u334 :: u335 :: u336 :: u337 :: u338 :: u339 :: u340 :: u341 :: u342 :: u343 :: u344 :: u345 :: u346 :: u347 :: u348 :: u349 :: u350 :: []), []⟩ wr := by
  have hmm := @run_makeMap Try.prog
  conv => arg 2; whnf
  obtain ⟨c1, c2, c3, c4, c5, hc⟩ := hW.c
  have NP := hide (cut_any hc hV.inv.ok)
  have HW := hide hW; have HV := hide hV
  clear hc hW hV
  go_wp2_with fail
  refine (unhide NP).mono ?_
  rintro e y1 ⟨v2, F1, rfl, z0, z1, z2, z3, z4⟩
  have hcl := cutL_len S.ow
  obtain ⟨cl, hcle⟩ : ∃ cl, cl = cutL S.ow := ⟨_, rfl⟩
  rw [← hcle] at z0 hcl
  have HCL := hide hcle
  clear hcle
  have HW1 := hide ((unhide HW).call z1 z2 z3)
  have hmo := (unhide HW).lt.2.2.2
  have HNO : Hid (v2.ownBlock ≠ some (mp + 1 + 1 + 1)) := hide (fun e => by have := (z0.lt _ e).1; dsimp only at hmo; omega)
  obtain ⟨⟨a2, cc, hv2⟩, hform⟩ := z0.form
  obtain ⟨bs, HR0⟩ : ∃ bs, Hid (OwnR y1 bs 52 3 cellsO v2 cl) := ⟨_, hide z0⟩
  have HFO := hide hform
  have hcli : (cl.length : Int) ≤ 10000 := by omega
  obtain ⟨n, hn⟩ : ∃ n, n = cl.length := ⟨_, rfl⟩
  rw [← hn] at hv2 hcl hcli HFO
  subst hv2
  have HN := hide hn
  have HST0 : Hid (CsW w y1 F1 b { S with ow := fun _ _ => 0 } ⟨mp, mp + 1, mp + 1 + 1, mp + 1 + 1 + 1⟩ { H with O := (cl.take 0).foldl addO H.O }) := HW1
  clear z0 z1 z2 z3 z4 hform hmo NP HW hn hcl HW1
  go_wp2
  go_loopw [266] (fun iv wq => ∃ i : Nat, i ≤ n ∧ iv = .int .i64 i ∧ CsW w wq F1 b { S with ow := fun _ _ => 0 } ⟨mp, mp + 1, mp + 1 + 1, mp + 1 + 1 + 1⟩ { H with O := (cl.take i).foldl addO H.O } ∧ OwnR wq bs 52 3 cellsO (.slice a2 n cc) cl) (fun iv _ => n - (intOf iv).toNat)
  case atStart => exact ⟨0, Nat.zero_le _, rfl, unhide HST0, unhide HR0⟩
  case round =>
    obtain ⟨i, hi, rfl, hQ, hR⟩ := hrel
    by_cases hil : i < n
    · have hii : (i : Int) < (n : Int) := by omega
      obtain ⟨o, ho⟩ : ∃ o, cl[i]? = some o := ⟨_, List.getElem?_eq_getElem (by rw [← unhide HN]; exact hil)⟩
      obtain ⟨v0, st, o1, o2, m, t1, t2, t3, t4, t5, t6, t7, t8⟩ := cut_round (unhide HCL) (unhide HV) hQ ho hR (unhide HNO)
      rcases unhide HFO with hnil | ⟨g2, cc', hv3, _, _⟩
      · rw [unhide HN, hnil] at hil; simp at hil
      injection hv3 with e1 _ e3
      subst e1 e3
      have hR1 := hR
      rw [unhide HN] at hR1
      have c0 : wr.cell? ⟨g2, i * 3, none⟩ = some (.int .i64 o.a) := hR1.cell cellsO_len i o ho 0 (by omega)
      have c1 : wr.cell? ⟨g2, i * 3 + 1, none⟩ = some (.int .i64 o.b) := hR1.cell cellsO_len i o ho 1 (by omega)
      have c2 : wr.cell? ⟨g2, i * 3 + 2, none⟩ = some (.int .i64 o.n) := hR1.cell cellsO_len i o ho 2 (by omega)
      have T6 := hide t6; have T7 := hide t7
      clear t6 t7 t8 hQ hR ho hR1
      go_wp2_with fail
      go_region
      all_goals
        go_wp2
        go_roundw
        case rel => exact ⟨i + 1, by omega, by go_num, unhide T6, unhide T7⟩
        case measure => simp [intOf]; omega
    · have hii : ¬ (i : Int) < (n : Int) := by omega
      have hie : i = cl.length := by have := unhide HN; omega
      rw [hie, List.take_length] at hQ
      have hV1 := (unhide HV).cut
      rw [← unhide HCL] at hV1
      obtain ⟨H1, hH1⟩ : ∃ H1 : Hld, H1 = { H with O := cl.foldl addO H.O } := ⟨_, rfl⟩
      rw [← hH1] at hQ hV1
      obtain ⟨S1, hS1⟩ : ∃ S1 : Clr, S1 = { S with ow := fun _ _ => 0 } := ⟨_, rfl⟩
      have hlast : S.last = S1.last := by rw [hS1]
      have HOW : Hid (S1.ow = fun _ _ => 0) := hide (by rw [hS1])
      rw [← hS1] at hQ hV1
      rw [hlast]
      have hB0 : Below wr.heap.size wr (wr.alloc (.map #[] 0)) := (Below.refl _ _).alloc (Nat.le_refl _) _
      obtain ⟨ks0, hG0⟩ := (hQ.below hB0).mp
      have HQ := hide hQ; have HV1 := hide hV1
      clear hQ hV1 hR hie hi hH1 hS1 hlast hB0 HV HR0 HST0 HFO HNO
      go_wp2_with (at_range; refine wpList_range_g _ rfl _ rfl keyK Try.underlying55 rfl hG0 ?_; intro w0 hrg0 hg0 hs0)
      (try go_frame)
      have HT0 : Hid (CsT w w0 F1 b S1 ⟨mp, mp + 1, mp + 1 + 1, mp + 1 + 1 + 1⟩ H1 wr.heap.size (wr.heap.size + 1) []) := hide (CsT.start (unhide HQ) (by simpa using hrg0) hg0)
      clear hrg0 hg0 hs0 hG0 HQ
      have hsz : (wr.alloc (Obj.map #[] 0)).heap.size = wr.heap.size + 1 := by simp
      (try rw [hsz])
      clear hsz
      generalize wr.heap.size = mw at *
      go_loopw [] (fun wq => ∃ vis, CsT w wq F1 b S1 ⟨mp, mp + 1, mp + 1 + 1, mp + 1 + 1 + 1⟩ H1 mw (mw + 1) vis) (fun wq => wq.rangeLeft mp (mw + 1))
      case atStart => exact ⟨[], unhide HT0⟩
      case round =>
        obtain ⟨vis, hT⟩ := hrel
        have HT := hide hT
        have hrg := hT.hr
        clear hT
        go_wp2_with (at_next; refine wpList_next_g _ rfl _ rfl (mw + 1) vis keyK rfl hrg ?_ ?_)
        · intro hall
          obtain ⟨O, W, lO, lW, hnet, hOb, hWb⟩ := (unhide HT).fin (unhide HV1) hall (unhide HOW)
          have HBE := hide (unhide HT).hW.bel
          have HNET := hide hnet; have HOB := hide hOb; have HWB := hide hWb; have LO := hide lO; have LW := hide lW
          clear hall lO lW hnet hOb hWb hrg HT
          obtain ⟨wz, rfl⟩ : ∃ wz, wz = wr := ⟨wr, rfl⟩
          (try go_frame)
          go_wp2
          go_loopw [33] (fun av wx => ∃ (a q : Nat), 1 ≤ a ∧ a ≤ 100 ∧ av = .int .i64 a ∧ wx = wz.drewN q) (fun av _ => 100 - (intOf av).toNat)
          case atStart => exact ⟨1, 0, by omega, by omega, rfl, rfl⟩
          case round =>
            obtain ⟨a, q, ha1, ha2, rfl, rfl⟩ := hrel
            by_cases hal : a ≤ 99
            · have hai : (a : Int) ≤ 99 := by omega
              go_wp2
              go_loopw [34] (fun bv wx => ∃ (c q : Nat), a < c ∧ c ≤ 100 ∧ bv = .int .i64 c ∧ wx = wz.drewN q) (fun bv _ => 100 - (intOf bv).toNat)
              case atStart => exact ⟨a + 1, q, by omega, by omega, by go_num, rfl⟩
              case round =>
                obtain ⟨c, q2, hc1, hc2, rfl, rfl⟩ := hrel
                by_cases hcl : c ≤ 99
                · have hci : (c : Int) ≤ 99 := by omega
                  have ia : InR (a : Int) := ⟨by omega, by omega⟩
                  have ic : InR (c : Int) := ⟨by omega, by omega⟩
                  have x1 := unhide LO; have x2 := unhide LW
                  have y1 := fun q => x1 q a c ia ic; have y2 := fun q => x1 q c a ic ia; have y3 := fun q => x2 q a c ia ic; have y4 := fun q => x2 q c a ic ia
                  have b1 := unhide HOB a c; have b2 := unhide HOB c a; have b3 := unhide HWB a c; have b4 := unhide HWB c a
                  have hnt := unhide HNET a c
                  clear x1 x2 ia ic
                  generalize O a c = p1 at *
                  generalize O c a = p2 at *
                  generalize W a c = p3 at *
                  generalize W c a = p4 at *
                  have e1 : IntKind.i64.wrap (p1 - p2) = p1 - p2 := by rw [IntKind.wrap_i64]; omega
                  have e2 : IntKind.i64.wrap (p3 - p4) = p3 - p4 := by rw [IntKind.wrap_i64]; omega
                  have e3 : ((p1 - p2) != (p3 - p4)) = false := by rw [hnt]; simp
                  clear b1 b2 b3 b4 hnt
                  go_wp2_with fail
                  go_quiet (fail)
                  go_wp2
                  go_roundw
                  case rel => exact ⟨c + 1, _, by omega, by omega, by go_num, rfl⟩
                  case measure => simp [intOf]; omega
                · have hci : ¬ (c : Int) ≤ 99 := by omega
                  go_wp2
                  go_roundw
                  case rel => exact ⟨a + 1, _, by omega, by omega, by go_num, rfl⟩
                  case measure => simp [intOf]; omega
            · have hai : ¬ (a : Int) ≤ 99 := by omega
              go_wp2
              go_ret
              exact ⟨rfl, below_drewN (unhide HBE) _⟩
        · intro a b' p w3 ra rb hgp hnv hrg3 hlt3 hgr3 hsz3 hen3
          have HU := hide ((unhide HT).next hrg3 hgr3)
          have HLEN := hide ((unhide HT).len (unhide HV1) (p := (a, b')) hnv (by show (H1.G a b').isSome = true; rw [hgp]; rfl))
          have HLT := hide hlt3
          obtain ⟨kk, hkm, hkp, hkk, hlk⟩ := (unhide HV1).inv.look hgp
          have NL := hide (fun W (hb : Below w3.heap.size w3 W) => by
            obtain ⟨c1, c2, c3, c4, c5, hc⟩ := ((unhide HU).below hb).hW.c
            exact lookC hc (unhide HV1).inv.ok a b' S1.last ra rb)
          obtain ⟨oc, hoc⟩ : ∃ oc, oc = onC S1.D kk.c S1.last := ⟨_, rfl⟩
          have hpd : oc.paid = kk.c.paid := by rw [hoc]; exact (on_paid _ _ _).1
          rw [hlk, ← hoc] at NL
          clear hoc
          have HKM := hide hkm; have HKK := hide hkk
          subst hkp
          clear hrg hrg3 hlt3 hgr3 hnv hgp hlk hkm hkk HT
          unfold twoV at hen3
          rw [rdP_val] at hen3
          unfold pstV at hen3
          rw [rdP_val]
          unfold twoV pstV
          unfold caseV at NL
          obtain ⟨os, oi, od, op⟩ := oc
          dsimp only at NL hpd
          subst hpd
          (try go_frame)
          have hB2 : Below w3.heap.size w3 ((w3.alloc (.cells #[.int .i64 a, .int .i64 b'] 60)).alloc (.cells #[.int .i64 kk.p.frm, .int .i64 kk.p.to, .int .i64 kk.p.shop, .int .i64 kk.p.trace, .int .i64 kk.p.amt, .int .i64 kk.p.day] 36)) := ((Below.refl _ _).alloc (Nat.le_refl _) _).alloc (by simp) _
          have HX := hide (alloc_at (w3.alloc (.cells #[.int .i64 a, .int .i64 b'] 60)) (.cells #[.int .i64 kk.p.frm, .int .i64 kk.p.to, .int .i64 kk.p.shop, .int .i64 kk.p.trace, .int .i64 kk.p.amt, .int .i64 kk.p.day] 36))
          go_wp2_with fail
          refine (unhide NL _ hB2).mono ?_
          rintro e y3 ⟨rfl, hy3⟩
          have hx3 := (hy3.block _ (blk_lt (unhide HX))).trans (unhide HX)
          have hsx : (w3.alloc (.cells #[.int .i64 a, .int .i64 b'] 60)).heap.size = w3.heap.size + 1 := by simp
          rw [hsx, hsz3] at hx3
          have f0 : y3.cell? ⟨wr.heap.size + 1, 0, none⟩ = some (.int .i64 kk.p.frm) := by simp [World.cell?, hx3]
          have f1 : y3.cell? ⟨wr.heap.size + 1, 1, none⟩ = some (.int .i64 kk.p.to) := by simp [World.cell?, hx3]
          have hfx : wr.heap.size + 1 < y3.heap.size := blk_lt hx3
          have hB3 := hB2.trans (hy3.mono hB2.size)
          have hB4 : Below w3.heap.size w3 (y3.alloc (.cells #[.int .i64 os, .int .i64 oi, .int .i64 od, .int .i64 kk.c.paid] 47)) := hB3.alloc hB3.size _
          have hU4 := (unhide HU).below hB4
          have hLF : (y3.alloc (.cells #[.int .i64 os, .int .i64 oi, .int .i64 od, .int .i64 kk.c.paid] 47)).rangeLeft mp (mw + 1) = w3.rangeLeft mp (mw + 1) := rangeLeft_blocks (hB4.block _ (unhide HU).hr.lt.2.1) (hB4.block _ (unhide HU).hr.lt.1)
          by_cases hft : kk.p.frm = kk.p.to
          · have bft : (kk.p.frm != kk.p.to) = false := by simp [hft]
            have HN4 := hide (hU4.none (fun x y => by
              unfold wantP
              rw [find_key (unhide HV1).inv.ok.once (unhide HKM) (unhide HKK)]
              show wantK kk x y = 0
              unfold wantK
              rw [if_neg (fun hh => hh.2.2 hft)]))
            have HLF := hide hLF
            clear hU4 hLF hB4 hB3 hB2 hft hx3 hsx hy3
            go_wp2
            go_roundw
            case rel => exact ⟨_, unhide HN4⟩
            case measure => rw [unhide HLF]; exact unhide HLT
          · have bft : (kk.p.frm != kk.p.to) = true := by simpa using hft
            obtain ⟨v0, st, o1, o2, m, t1, t2, t3, t4, t5, t6, t7⟩ := hU4.add (unhide HV1).inv.ok (unhide HLEN) (unhide HKM) (unhide HKK) hft
            have T6 := hide t6; have T7 := hide (t7.trans hLF)
            clear hU4 hLF hB4 hB3 hB2 hft hx3 hsx hy3 t6 t7
            go_wp2_with fail
            go_region
            all_goals
              go_wp2
              go_roundw
              case rel => exact ⟨_, unhide T6⟩
              case measure => rw [unhide T7]; exact unhide HLT
end Go.Proofs.Ytdameincehiieaa
