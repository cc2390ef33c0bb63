/- A till's plan: what is wrong with it, by the document's own. Made by drafts/genTnC.py. -/
import Derived.Test.YtfpglpefofcdeaaDoorM09
namespace Go.Proofs.YtfpglpefofcdeaaDoor
open Go.RowKit Go.WideMaps Go.Maps
set_option linter.unusedVariables false
set_option linter.unusedSimpArgs false
set_option maxRecDepth 100000

theorem nbits_any (n : Int) (w : World) : Calls Tryd.prog 14 #[.int .i64 n] w fun e w' => e = .returned (.bool (inB n 0 4095)) ∧ w' = w := by
  by_cases h1 : 0 ≤ n
  · have HQ : Hid (inB n 0 4095 = decide (n < 4096)) := hide (decide_eq_decide.2 (by omega))
    go_enter Tryd.func14, Tryd.ntmps14
    go_wp2
    go_ret
    exact ⟨ret_bool (unhide HQ).symm, rfl⟩
  · have HQ : Hid (inB n 0 4095 = false) := hide (decide_eq_false (by omega))
    go_enter Tryd.func14, Tryd.ntmps14
    go_wp2
    go_ret
    exact ⟨ret_bool (unhide HQ).symm, rfl⟩
set_option maxHeartbeats 4000000 in
theorem rplan_any (p : XTillPlan) (w : World) (hok : okTillPlan w p) :
    Calls Tryd.prog 5 #[valTillPlan p] w fun e w' => e = .returned (.int .i64 (planE p)) ∧ Below w.heap.size w w' := by
  obtain ⟨root, ko, known, kc, ⟨fl, fr, sh, mo, lo, up, bo, black, bc⟩, ⟨md, mn, mf⟩, ao, able, ac, shop, nm⟩ := p
  obtain ⟨_, hk, _⟩ := hok
  have hk : RowKnown w ko known := hk
  unfold planE valTillPlan
  simp only
  obtain ⟨W1, hW1⟩ : ∃ W1, W1 = w.alloc (.cells #[.string root, .slice ko known.length kc, .int .i64 fl, .int .i64 fr, .int .i64 sh, .int .i64 mo, .int .i64 lo, .int .i64 up, .slice bo black.length bc, .int .i64 md, .int .i64 mn, .int .i64 mf, .slice ao able.length ac, .int .i64 shop, .string nm] 30) := ⟨_, rfl⟩
  have hB1 : Below w.heap.size w W1 := by rw [hW1]; exact (Below.refl _ _).alloc (Nat.le_refl _) _
  have hX1 : W1.heap[w.heap.size]? = some (.cells #[.string root, .slice ko known.length kc, .int .i64 fl, .int .i64 fr, .int .i64 sh, .int .i64 mo, .int .i64 lo, .int .i64 up, .slice bo black.length bc, .int .i64 md, .int .i64 mn, .int .i64 mf, .slice ao able.length ac, .int .i64 shop, .string nm] 30 (0, 0)) := by rw [hW1]; exact heap_alloc_new _ _
  have HX := hide (fun W (hb : Below W1.heap.size W1 W) => planAt ((hb.block _ (Array.getElem?_eq_some_iff.1 hX1).1).trans hX1))
  have N0 := hide (fun W => rmod_any root W)
  have NR := hide (fun W => rrisk_any ⟨fl, fr, sh, mo, lo, up, bo, black, bc⟩ W)
  have M0 := hide (fun W => nbits_any md W)
  have M1 := hide (fun W => nbits_any mn W)
  have M2 := hide (fun W => nbits_any mf W)
  unfold valRisk at NR
  simp only at NR
  unfold maskN
  simp only
  have HS : Hid (inB shop 0 4294967295 = decide (0 ≤ shop ∧ shop < 4294967296)) := hide (decide_eq_decide.2 (by omega))
  generalize modB root = q0 at *
  generalize riskE ⟨fl, fr, sh, mo, lo, up, bo, black, bc⟩ = re at *
  generalize inB shop 0 4294967295 = q2 at *
  generalize inB md 0 4095 = b0 at *
  generalize inB mn 0 4095 = b1 at *
  generalize inB mf 0 4095 = b2 at *
  generalize black.length = bl at *
  generalize able.length = al at *
  have hk1 := hk.below hB1
  obtain ⟨q1, hq1⟩ : ∃ q1, q1 = known.any misN := ⟨_, rfl⟩
  rw [← hq1]
  have HQ1 := hide hq1
  have HB1 := hide hB1; have HW1 := hide hW1
  clear hB1 hX1 hW1 hk hq1
  cases q0 with
  | false =>
    have HV : Hid (planV false q1 known.length re q2 (b0 && b1 && b2) = 1) := hide rfl
    have K1 : Hid (Below W1.heap.size W1 W1) := hide (Below.refl _ _)
    obtain ⟨c0, c1, c2, c3, c4, c5, c6, c7, c8, c9, c10, c11, c12, c13, c14⟩ := unhide HX W1 (Below.refl _ _)
    go_enter Tryd.func5, Tryd.ntmps5
    go_upto_region 1 with fail
    rw [← unhide HW1]
    go_wp2_with fail
    refine (unhide N0 _).mono ?_
    rintro e y1 ⟨rfl, hy⟩
    have hy' := hy.symm
    subst hy'
    clear hy
    go_wp2
    go_ret
    exact ⟨ret_intN HV, (unhide HB1).trans ((unhide K1).mono (unhide HB1).size)⟩
  | true =>
  obtain ⟨c0, c1, c2, c3, c4, c5, c6, c7, c8, c9, c10, c11, c12, c13, c14⟩ := unhide HX W1 (Below.refl _ _)
  go_enter Tryd.func5, Tryd.ntmps5
  go_upto_region 1 with fail
  rw [← unhide HW1]
  go_wp2_with fail
  refine (unhide N0 _).mono ?_
  rintro e y1 ⟨rfl, hy⟩
  have hy' := hy.symm
  subst hy'
  clear hy
  obtain ⟨hr, _, hm⟩ := hk1
  have hml : known.length ≤ 9223372036854775807 := by simpa [maxLen] using hm
  clear hm
  go_wp2
  clear c0 c1 c2 c3 c4 c5 c6 c7 c8 c9 c10 c11 c12 c13 c14
  go_loopw [13] (fun i wr => ∃ k : Nat, k ≤ known.length ∧ i = .int .i64 k ∧ Hid ((known.take k).any misN = false) ∧ Below W1.heap.size W1 wr) (fun i _ => known.length - (intOf i).toNat)
  case atStart => exact ⟨0, Nat.zero_le _, rfl, hide (by simp), Below.refl _ _⟩
  case round =>
    obtain ⟨k, hk, rfl, HA, hbw⟩ := hrel
    by_cases hlt : k < known.length
    · obtain ⟨y, hy⟩ : ∃ y, known[k]? = some y := ⟨_, List.getElem?_eq_getElem hlt⟩
      rcases hr with hnil | ⟨b, off, rfl, hb, hc⟩
      · rw [hnil] at hlt; simp at hlt
      obtain ⟨e0, e1⟩ := hc k y hy
      have d0 : wr.cell? ⟨b, off + k * 2, none⟩ = _ := (hbw.cell (p := ⟨b, off + k * 2, none⟩) hb).trans e0
      have d1 : wr.cell? ⟨b, off + k * 2 + 1, none⟩ = _ := (hbw.cell (p := ⟨b, off + k * 2 + 1, none⟩) hb).trans e1
      have hs := anyP_take_succ known misN k y hy
      rw [unhide HA, Bool.false_or] at hs
      have HBW := hide (hbw.alloc (o := .cells #[.string y.name, .bool y.part] 65) hbw.size)
      have hmis : misN y = decide ((y.name.size : Int) < 1 ∨ 16 < (y.name.size : Int)) := by
        unfold misN inB
        rw [← decide_not]
        exact decide_eq_decide.2 (by omega)
      have HM := hide hmis
      clear hc e0 e1 hmis hbw
      obtain ⟨yn, yp⟩ := y
      simp only at d0 d1 HBW HM
      cases he : misN ⟨yn, yp⟩ with
      | true =>
        have HV : Hid (planV true q1 known.length re q2 (b0 && b1 && b2) = 1) := hide (by rw [unhide HQ1, anyP_of_take known misN (k + 1) (hs.trans he)]; rfl)
        have hz : (yn.size : Int) < 1 ∨ ¬ (yn.size : Int) < 1 ∧ 16 < (yn.size : Int) := by
          have := of_decide_eq_true ((unhide HM).symm.trans he)
          omega
        clear hs hy he HM
        rcases hz with hz | ⟨hz, hz2⟩
        · go_wp2
          go_ret
          exact ⟨ret_intN HV, (unhide HB1).trans ((unhide HBW).mono (unhide HB1).size)⟩
        · go_wp2
          go_ret
          exact ⟨ret_intN HV, (unhide HB1).trans ((unhide HBW).mono (unhide HB1).size)⟩
      | false =>
        have HS2 : Hid ((known.take (k + 1)).any misN = false) := hide (hs.trans he)
        obtain ⟨hz, hz2⟩ : ¬ (yn.size : Int) < 1 ∧ ¬ 16 < (yn.size : Int) := by
          have := of_decide_eq_false ((unhide HM).symm.trans he)
          omega
        clear hs hy he HM
        go_wp2
        go_roundw
        case rel => exact ⟨k + 1, by omega, by go_num, HS2, unhide HBW⟩
        case measure => simp [intOf]; omega
    · have hf : q1 = false := by
        have := unhide HA
        rw [List.take_of_length_le (by omega)] at this
        rw [unhide HQ1]; exact this
      subst hf
      have K1 := hide hbw
      clear hbw HA hr
      obtain ⟨c0, c1, c2, c3, c4, c5, c6, c7, c8, c9, c10, c11, c12, c13, c14⟩ := unhide HX wr (unhide K1)
      by_cases hl : 50 < known.length
      case pos =>
        have HV : Hid (planV true false known.length re q2 (b0 && b1 && b2) = 2) := hide (by show (if 50 < known.length then (2 : Int) else _) = 2; rw [if_pos hl])
        have hl' : (50 : Int) < (known.length : Int) := by omega
        clear hl
        go_wp2
        go_ret
        exact ⟨ret_intN HV, (unhide HB1).trans ((unhide K1).mono (unhide HB1).size)⟩
      have hl' : ¬ (50 : Int) < (known.length : Int) := by omega
      by_cases hrz : re = 0
      case neg =>
        have HV : Hid (planV true false known.length re q2 (b0 && b1 && b2) = re) := hide (by show (if 50 < known.length then (2 : Int) else if re ≠ 0 then re else _) = re; rw [if_neg hl, if_pos hrz])
        have hr' : (re != 0) = true := by simpa using hrz
        clear hl hrz
        go_wp2_with fail
        refine (unhide NR _).mono ?_
        rintro e y3 ⟨rfl, k3⟩
        have K3 := hide ((unhide K1).trans (k3.mono (unhide K1).size))
        clear k3
        clear c0 c1 c2 c3 c4 c5 c6 c7 c8 c9 c10 c11 c12 c13 c14
        obtain ⟨c0, c1, c2, c3, c4, c5, c6, c7, c8, c9, c10, c11, c12, c13, c14⟩ := unhide HX y3 (unhide K3)
        go_wp2
        go_ret
        exact ⟨ret_intN HV, (unhide HB1).trans ((unhide K3).mono (unhide HB1).size)⟩
      subst hrz
      have HV3 : Hid ((q2 && (b0 && b1 && b2)) = false → planV true false known.length 0 q2 (b0 && b1 && b2) = 3) := hide (fun h => by show (if 50 < known.length then (2 : Int) else if (0 : Int) ≠ 0 then _ else bif q2 && (b0 && b1 && b2) then 0 else 3) = 3; rw [if_neg hl, h]; rfl)
      have HV0 : Hid ((q2 && (b0 && b1 && b2)) = true → planV true false known.length 0 q2 (b0 && b1 && b2) = 0) := hide (fun h => by show (if 50 < known.length then (2 : Int) else if (0 : Int) ≠ 0 then _ else bif q2 && (b0 && b1 && b2) then 0 else 3) = 0; rw [if_neg hl, h]; rfl)
      clear hl
      cases b0 with
      | false =>
        have HV := hide (unhide HV3 (by simp))
        go_wp2_with fail
        refine (unhide NR _).mono ?_
        rintro e y3 ⟨rfl, k3⟩
        have K3 := hide ((unhide K1).trans (k3.mono (unhide K1).size))
        clear k3
        clear c0 c1 c2 c3 c4 c5 c6 c7 c8 c9 c10 c11 c12 c13 c14
        obtain ⟨c0, c1, c2, c3, c4, c5, c6, c7, c8, c9, c10, c11, c12, c13, c14⟩ := unhide HX y3 (unhide K3)
        go_wp2_with fail
        refine (unhide M0 _).mono ?_
        rintro e m0 ⟨rfl, hy⟩
        have hy' := hy.symm
        subst hy'
        clear hy
        go_wp2
        go_ret
        exact ⟨ret_intN HV, (unhide HB1).trans ((unhide K3).mono (unhide HB1).size)⟩
      | true =>
      cases b1 with
      | false =>
        have HV := hide (unhide HV3 (by simp))
        go_wp2_with fail
        refine (unhide NR _).mono ?_
        rintro e y3 ⟨rfl, k3⟩
        have K3 := hide ((unhide K1).trans (k3.mono (unhide K1).size))
        clear k3
        clear c0 c1 c2 c3 c4 c5 c6 c7 c8 c9 c10 c11 c12 c13 c14
        obtain ⟨c0, c1, c2, c3, c4, c5, c6, c7, c8, c9, c10, c11, c12, c13, c14⟩ := unhide HX y3 (unhide K3)
        go_wp2_with fail
        refine (unhide M0 _).mono ?_
        rintro e m0 ⟨rfl, hy⟩
        have hy' := hy.symm
        subst hy'
        clear hy
        go_wp2_with fail
        refine (unhide M1 _).mono ?_
        rintro e m1 ⟨rfl, hy⟩
        have hy' := hy.symm
        subst hy'
        clear hy
        go_wp2
        go_ret
        exact ⟨ret_intN HV, (unhide HB1).trans ((unhide K3).mono (unhide HB1).size)⟩
      | true =>
      cases b2 with
      | false =>
        have HV := hide (unhide HV3 (by simp))
        go_wp2_with fail
        refine (unhide NR _).mono ?_
        rintro e y3 ⟨rfl, k3⟩
        have K3 := hide ((unhide K1).trans (k3.mono (unhide K1).size))
        clear k3
        clear c0 c1 c2 c3 c4 c5 c6 c7 c8 c9 c10 c11 c12 c13 c14
        obtain ⟨c0, c1, c2, c3, c4, c5, c6, c7, c8, c9, c10, c11, c12, c13, c14⟩ := unhide HX y3 (unhide K3)
        go_wp2_with fail
        refine (unhide M0 _).mono ?_
        rintro e m0 ⟨rfl, hy⟩
        have hy' := hy.symm
        subst hy'
        clear hy
        go_wp2_with fail
        refine (unhide M1 _).mono ?_
        rintro e m1 ⟨rfl, hy⟩
        have hy' := hy.symm
        subst hy'
        clear hy
        go_wp2_with fail
        refine (unhide M2 _).mono ?_
        rintro e m2 ⟨rfl, hy⟩
        have hy' := hy.symm
        subst hy'
        clear hy
        go_wp2
        go_ret
        exact ⟨ret_intN HV, (unhide HB1).trans ((unhide K3).mono (unhide HB1).size)⟩
      | true =>
      by_cases hs1 : shop < 0
      case pos =>
        have hq2 : q2 = false := by rw [unhide HS]; exact decide_eq_false (by omega)
        subst hq2
        have HV := hide (unhide HV3 (by simp))
        go_wp2_with fail
        refine (unhide NR _).mono ?_
        rintro e y3 ⟨rfl, k3⟩
        have K3 := hide ((unhide K1).trans (k3.mono (unhide K1).size))
        clear k3
        clear c0 c1 c2 c3 c4 c5 c6 c7 c8 c9 c10 c11 c12 c13 c14
        obtain ⟨c0, c1, c2, c3, c4, c5, c6, c7, c8, c9, c10, c11, c12, c13, c14⟩ := unhide HX y3 (unhide K3)
        go_wp2_with fail
        refine (unhide M0 _).mono ?_
        rintro e m0 ⟨rfl, hy⟩
        have hy' := hy.symm
        subst hy'
        clear hy
        go_wp2_with fail
        refine (unhide M1 _).mono ?_
        rintro e m1 ⟨rfl, hy⟩
        have hy' := hy.symm
        subst hy'
        clear hy
        go_wp2_with fail
        refine (unhide M2 _).mono ?_
        rintro e m2 ⟨rfl, hy⟩
        have hy' := hy.symm
        subst hy'
        clear hy
        go_wp2
        go_ret
        exact ⟨ret_intN HV, (unhide HB1).trans ((unhide K3).mono (unhide HB1).size)⟩
      by_cases hs2 : 4294967296 ≤ shop
      case pos =>
        have hq2 : q2 = false := by rw [unhide HS]; exact decide_eq_false (by omega)
        subst hq2
        have HV := hide (unhide HV3 (by simp))
        go_wp2_with fail
        refine (unhide NR _).mono ?_
        rintro e y3 ⟨rfl, k3⟩
        have K3 := hide ((unhide K1).trans (k3.mono (unhide K1).size))
        clear k3
        clear c0 c1 c2 c3 c4 c5 c6 c7 c8 c9 c10 c11 c12 c13 c14
        obtain ⟨c0, c1, c2, c3, c4, c5, c6, c7, c8, c9, c10, c11, c12, c13, c14⟩ := unhide HX y3 (unhide K3)
        go_wp2_with fail
        refine (unhide M0 _).mono ?_
        rintro e m0 ⟨rfl, hy⟩
        have hy' := hy.symm
        subst hy'
        clear hy
        go_wp2_with fail
        refine (unhide M1 _).mono ?_
        rintro e m1 ⟨rfl, hy⟩
        have hy' := hy.symm
        subst hy'
        clear hy
        go_wp2_with fail
        refine (unhide M2 _).mono ?_
        rintro e m2 ⟨rfl, hy⟩
        have hy' := hy.symm
        subst hy'
        clear hy
        go_wp2
        go_ret
        exact ⟨ret_intN HV, (unhide HB1).trans ((unhide K3).mono (unhide HB1).size)⟩
      have hq2 : q2 = true := by rw [unhide HS]; exact decide_eq_true (by omega)
      subst hq2
      have HV := hide (unhide HV0 (by simp))
      go_wp2_with fail
      refine (unhide NR _).mono ?_
      rintro e y3 ⟨rfl, k3⟩
      have K3 := hide ((unhide K1).trans (k3.mono (unhide K1).size))
      clear k3
      clear c0 c1 c2 c3 c4 c5 c6 c7 c8 c9 c10 c11 c12 c13 c14
      obtain ⟨c0, c1, c2, c3, c4, c5, c6, c7, c8, c9, c10, c11, c12, c13, c14⟩ := unhide HX y3 (unhide K3)
      go_wp2_with fail
      refine (unhide M0 _).mono ?_
      rintro e m0 ⟨rfl, hy⟩
      have hy' := hy.symm
      subst hy'
      clear hy
      go_wp2_with fail
      refine (unhide M1 _).mono ?_
      rintro e m1 ⟨rfl, hy⟩
      have hy' := hy.symm
      subst hy'
      clear hy
      go_wp2_with fail
      refine (unhide M2 _).mono ?_
      rintro e m2 ⟨rfl, hy⟩
      have hy' := hy.symm
      subst hy'
      clear hy
      go_wp2
      go_ret
      exact ⟨ret_intN HV, (unhide HB1).trans ((unhide K3).mono (unhide HB1).size)⟩
end Go.Proofs.YtfpglpefofcdeaaDoor
