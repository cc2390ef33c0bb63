/- A till's plan: what is wrong with it, by the program and by the document's own. Made by drafts/genTnB.py. -/
import Derived.Test.YtfpglpefofcdeaaDoorM08
import Derived.Deep.DeepCutAuto
namespace Go.Proofs.YtfpglpefofcdeaaDoor
open Go.RowKit Go.WideMaps Go.Maps
set_option linter.unusedVariables false
set_option linter.unusedSimpArgs false
set_option maxRecDepth 100000

theorem nwithin_any (n lo hi : Int) (w : World) :
    Calls Tryd.prog 26 #[.int .i64 n, .int .i64 lo, .int .i64 hi] w fun e w' => e = .returned (.bool (inB n lo hi)) ∧ w' = w := by
  by_cases h1 : lo ≤ n
  · have HQ : Hid (inB n lo hi = decide (n ≤ hi)) := hide (decide_eq_decide.2 (by omega))
    go_enter Tryd.func26, Tryd.ntmps26
    go_wp2
    go_ret
    exact ⟨ret_bool (unhide HQ).symm, rfl⟩
  · have HQ : Hid (inB n lo hi = false) := hide (decide_eq_false (by omega))
    go_enter Tryd.func26, Tryd.ntmps26
    go_wp2
    go_ret
    exact ⟨ret_bool (unhide HQ).symm, rfl⟩
/-- is it misnamed? -/
def misN (x : XKnown) : Bool := !inB x.name.size 1 16
theorem misn_any (x : XKnown) (w : World) :
    Calls Tryd.prog 24 #[valKnown x] w fun e w' => e = .returned (.bool (misN x)) ∧ Below w.heap.size w w' := by
  obtain ⟨nm, pt⟩ := x
  have N0 := hide (fun W => nwithin_any (nm.size : Int) 1 16 W)
  have HB := hide (fun o : Obj => (Below.refl w.heap.size w).alloc (Nat.le_refl _) o)
  unfold valKnown misN
  simp only
  generalize inB (nm.size : Int) 1 16 = q at *
  go_enter Tryd.func24, Tryd.ntmps24
  go_wp2_with fail
  refine (unhide N0 _).mono ?_
  rintro e w1 ⟨rfl, hw⟩
  have hw' := hw.symm
  subst hw'
  go_wp2
  go_ret
  exact ⟨rfl, unhide HB _⟩
set_option maxHeartbeats 1000000 in
theorem indexmsn_any (l : List XKnown) (ao : Option Addr) (cap : Nat) (w : World) (hr : RowKnown w ao l) :
    Calls Tryd.prog 36 #[.slice ao l.length cap, .func (.func 24) #[] #[]] w fun e w' => (∃ v : Int, e = .returned (.int .i64 v) ∧ decide (0 ≤ v) = l.any misN) ∧ Below w.heap.size w w' := by
  obtain ⟨hr, _, hm⟩ := hr
  go_enter Tryd.func36, Tryd.ntmps36
  go_wp2
  go_loopw [8] (fun i wr => ∃ k : Nat, k ≤ l.length ∧ i = .int .i64 k ∧ Hid ((l.take k).any misN = false) ∧ Below w.heap.size w wr) (fun i _ => l.length - (intOf i).toNat)
  case atStart => exact ⟨0, Nat.zero_le _, rfl, hide (by simp), Below.refl _ _⟩
  case round =>
    obtain ⟨k, hk, rfl, HA, hbw⟩ := hrel
    by_cases hlt : k < l.length
    · obtain ⟨y, hy⟩ : ∃ y, l[k]? = some y := ⟨_, List.getElem?_eq_getElem hlt⟩
      rcases hr with hnil | ⟨b, off, rfl, hb, hc⟩
      · rw [hnil] at hlt; simp at hlt
      obtain ⟨c0, c1⟩ := hc k y hy
      have d0 : wr.cell? ⟨b, off + k * 2, none⟩ = _ := (hbw.cell (p := ⟨b, off + k * 2, none⟩) hb).trans c0
      have d1 : wr.cell? ⟨b, off + k * 2 + 1, none⟩ = _ := (hbw.cell (p := ⟨b, off + k * 2 + 1, none⟩) hb).trans c1
      have hs := anyP_take_succ l misN k y hy
      rw [unhide HA, Bool.false_or] at hs
      have hml : l.length ≤ 9223372036854775807 := by simpa [maxLen] using hm
      have n1 := misn_any y wr
      clear hc hm c0 c1
      unfold valKnown at n1
      cases he : misN y with
      | true =>
        have HF := hide (anyP_of_take l misN (k + 1) (hs.trans he))
        rw [he] at n1
        have N1 := hide n1
        clear hs hy n1 he
        go_wp2_with fail
        refine (unhide N1).mono ?_
        rintro e w1 ⟨rfl, hb1⟩
        go_wp2
        go_ret
        exact ⟨⟨_, rfl, by rw [unhide HF]; simp⟩, hbw.trans (hb1.mono hbw.size)⟩
      | false =>
        have HS : Hid ((l.take (k + 1)).any misN = false) := hide (hs.trans he)
        rw [he] at n1
        have N1 := hide n1
        clear hs hy n1 he
        go_wp2_with fail
        refine (unhide N1).mono ?_
        rintro e w1 ⟨rfl, hb1⟩
        go_wp2
        go_roundw
        case rel => exact ⟨k + 1, by omega, by go_num, HS, hbw.trans (hb1.mono hbw.size)⟩
        case measure => simp [intOf]; omega
    · have HF : Hid (l.any misN = false) := hide (by have := unhide HA; rw [List.take_of_length_le (by omega)] at this; exact this)
      go_wp2
      go_ret
      exact ⟨⟨_, rfl, by rw [unhide HF]; rfl⟩, hbw⟩
theorem containsmsn_any (l : List XKnown) (ao : Option Addr) (cap : Nat) (w : World) (hr : RowKnown w ao l) :
    Calls Tryd.prog 23 #[.slice ao l.length cap, .func (.func 24) #[] #[]] w fun e w' => e = .returned (.bool (l.any misN)) ∧ Below w.heap.size w w' := by
  have N1 := hide (indexmsn_any l ao cap w hr)
  clear hr
  generalize l.any misN = q at *
  go_enter Tryd.func23, Tryd.ntmps23
  go_wp2_with fail
  refine (unhide N1).mono ?_
  rintro e w1 ⟨⟨v, rfl, hv⟩, hb1⟩
  have HV := hide hv
  clear hv
  go_wp2
  go_ret
  exact ⟨ret_bool (unhide HV), hb1⟩


/-- are they masks? -/
def maskN (m : XMasks) : Bool := inB m.d 0 4095 && inB m.o 0 4095 && inB m.f 0 4095
set_option maxHeartbeats 1000000 in
theorem areMasks_any (d o f : Int) (w : World) :
    Calls Tryd.prog 27 #[.agg #[.int .i64 d, .int .i64 o, .int .i64 f]] w fun e w' => e = .returned (.bool (maskN ⟨d, o, f⟩)) ∧ Below w.heap.size w w' := by
  have N0 := hide (fun W => nwithin_any d 0 4095 W)
  have N1 := hide (fun W => nwithin_any o 0 4095 W)
  have N2 := hide (fun W => nwithin_any f 0 4095 W)
  have HB := hide (fun o : Obj => (Below.refl w.heap.size w).alloc (Nat.le_refl _) o)
  unfold maskN
  simp only
  generalize inB d 0 4095 = q0 at *
  generalize inB o 0 4095 = q1 at *
  generalize inB f 0 4095 = q2 at *
  cases q0 with
  | false =>
    go_enter Tryd.func27, Tryd.ntmps27
    go_wp2_with fail
    refine (unhide N0 _).mono ?_
    rintro e w1 ⟨rfl, hw⟩
    have hw' := hw.symm
    subst hw'
    clear hw
    go_wp2
    go_ret
    exact ⟨rfl, unhide HB _⟩
  | true =>
  cases q1 with
  | false =>
    go_enter Tryd.func27, Tryd.ntmps27
    go_wp2_with fail
    refine (unhide N0 _).mono ?_
    rintro e w1 ⟨rfl, hw⟩
    have hw' := hw.symm
    subst hw'
    clear hw
    go_wp2_with fail
    refine (unhide N1 _).mono ?_
    rintro e w2 ⟨rfl, hw⟩
    have hw' := hw.symm
    subst hw'
    clear hw
    go_wp2
    go_ret
    exact ⟨rfl, unhide HB _⟩
  | true =>
    go_enter Tryd.func27, Tryd.ntmps27
    go_wp2_with fail
    refine (unhide N0 _).mono ?_
    rintro e w1 ⟨rfl, hw⟩
    have hw' := hw.symm
    subst hw'
    clear hw
    go_wp2_with fail
    refine (unhide N1 _).mono ?_
    rintro e w2 ⟨rfl, hw⟩
    have hw' := hw.symm
    subst hw'
    clear hw
    go_wp2_with fail
    refine (unhide N2 _).mono ?_
    rintro e w3 ⟨rfl, hw⟩
    have hw' := hw.symm
    subst hw'
    clear hw
    go_wp2
    go_ret
    exact ⟨ret_bool (by simp), unhide HB _⟩
/-- what is wrong with a plan -/
def planV (q0 q1 : Bool) (n : Nat) (re : Int) (q2 q3 : Bool) : Int := bif !q0 || q1 then 1 else if 50 < n then 2 else if re ≠ 0 then re else bif q2 && q3 then 0 else 3
def planE (p : XTillPlan) : Int := planV (modB p.root) (p.known.any misN) p.known.length (riskE p.risk) (inB p.shop 0 4294967295) (maskN p.masks)
/-- a plan's cells -/
theorem planAt {W : World} {b : Nat} {t : TypeId} {v0 v1 v2 v3 v4 v5 v6 v7 v8 v9 v10 v11 v12 v13 v14 : Value} (h : W.heap[b]? = some (.cells #[v0, v1, v2, v3, v4, v5, v6, v7, v8, v9, v10, v11, v12, v13, v14] t (0, 0))) : W.cell? ⟨b, 0, none⟩ = some v0 ∧ W.cell? ⟨b, 1, none⟩ = some v1 ∧ W.cell? ⟨b, 2, none⟩ = some v2 ∧ W.cell? ⟨b, 3, none⟩ = some v3 ∧ W.cell? ⟨b, 4, none⟩ = some v4 ∧ W.cell? ⟨b, 5, none⟩ = some v5 ∧ W.cell? ⟨b, 6, none⟩ = some v6 ∧ W.cell? ⟨b, 7, none⟩ = some v7 ∧ W.cell? ⟨b, 8, none⟩ = some v8 ∧ W.cell? ⟨b, 9, none⟩ = some v9 ∧ W.cell? ⟨b, 10, none⟩ = some v10 ∧ W.cell? ⟨b, 11, none⟩ = some v11 ∧ W.cell? ⟨b, 12, none⟩ = some v12 ∧ W.cell? ⟨b, 13, none⟩ = some v13 ∧ W.cell? ⟨b, 14, none⟩ = some v14 :=
  ⟨cell_of_row _ _ 0 _ _ _ h, cell_of_row _ _ 1 _ _ _ h, cell_of_row _ _ 2 _ _ _ h, cell_of_row _ _ 3 _ _ _ h, cell_of_row _ _ 4 _ _ _ h, cell_of_row _ _ 5 _ _ _ h, cell_of_row _ _ 6 _ _ _ h, cell_of_row _ _ 7 _ _ _ h, cell_of_row _ _ 8 _ _ _ h, cell_of_row _ _ 9 _ _ _ h, cell_of_row _ _ 10 _ _ _ h, cell_of_row _ _ 11 _ _ _ h, cell_of_row _ _ 12 _ _ _ h, cell_of_row _ _ 13 _ _ _ h, cell_of_row _ _ 14 _ _ _ h⟩
theorem ret_intN {a b : Int} (h : Hid (a = b)) : Ending.returned (.int .i64 b) = .returned (.int .i64 a) := by rw [unhide h]
set_option maxHeartbeats 4000000 in
theorem checkPlan_any (p : XTillPlan) (w : World) (hok : okTillPlan w p) :
    Calls Tryd.prog 8 #[valTillPlan p] w fun e w' => e = .returned (.int .i64 (planE p)) ∧ Below w.heap.size w w' := by
  obtain ⟨root, ko, known, kc, ⟨fl, fr, sh, mo, lo, up, bo, black, bc⟩, ⟨md, mn, mf⟩, ao, able, ac, shop, nm⟩ := p
  obtain ⟨_, hk, _⟩ := hok
  have hk : RowKnown w ko known := hk
  unfold planE valTillPlan
  simp only
  obtain ⟨W1, hW1⟩ : ∃ W1, W1 = w.alloc (.cells #[.string root, .slice ko known.length kc, .int .i64 fl, .int .i64 fr, .int .i64 sh, .int .i64 mo, .int .i64 lo, .int .i64 up, .slice bo black.length bc, .int .i64 md, .int .i64 mn, .int .i64 mf, .slice ao able.length ac, .int .i64 shop, .string nm] 30) := ⟨_, rfl⟩
  have hB1 : Below w.heap.size w W1 := by rw [hW1]; exact (Below.refl _ _).alloc (Nat.le_refl _) _
  have hX1 : W1.heap[w.heap.size]? = some (.cells #[.string root, .slice ko known.length kc, .int .i64 fl, .int .i64 fr, .int .i64 sh, .int .i64 mo, .int .i64 lo, .int .i64 up, .slice bo black.length bc, .int .i64 md, .int .i64 mn, .int .i64 mf, .slice ao able.length ac, .int .i64 shop, .string nm] 30 (0, 0)) := by rw [hW1]; exact heap_alloc_new _ _
  have HX := hide (fun W (hb : Below W1.heap.size W1 W) => planAt ((hb.block _ (Array.getElem?_eq_some_iff.1 hX1).1).trans hX1))
  have N0 := hide (fun W => tmod_any root W)
  have N1 := hide (fun W (hb : Below W1.heap.size W1 W) => containsmsn_any known ko kc W ((hk.below hB1).below hb))
  have NR := hide (fun W => checkRisk_any ⟨fl, fr, sh, mo, lo, up, bo, black, bc⟩ W)
  have NW := hide (fun W => nwithin_any shop 0 4294967295 W)
  have NM := hide (fun W => areMasks_any md mn mf W)
  unfold valRisk at NR
  simp only at NR
  generalize modB root = q0 at *
  generalize known.any misN = q1 at *
  generalize riskE ⟨fl, fr, sh, mo, lo, up, bo, black, bc⟩ = re at *
  generalize inB shop 0 4294967295 = q2 at *
  generalize maskN ⟨md, mn, mf⟩ = q3 at *
  have hln : Hid (∀ n : Nat, known.length = n → n = known.length) := hide (fun _ h => h.symm)
  generalize known.length = kl at *
  generalize black.length = bl at *
  generalize able.length = al at *
  have HB1 := hide hB1; have HW1 := hide hW1
  clear hB1 hX1 hW1 hk hln
  cases q0 with
  | false =>
    have HV : Hid (planV false q1 kl re q2 q3 = 1) := hide rfl
    obtain ⟨c0, c1, c2, c3, c4, c5, c6, c7, c8, c9, c10, c11, c12, c13, c14⟩ := unhide HX W1 (Below.refl _ _)
    go_enter Tryd.func8, Tryd.ntmps8
    go_upto_region 1 with fail
    rw [← unhide HW1]
    go_wp2_with fail
    refine (unhide N0 _).mono ?_
    rintro e y1 ⟨rfl, k1⟩
    have K1 := hide k1
    clear k1
    clear c0 c1 c2 c3 c4 c5 c6 c7 c8 c9 c10 c11 c12 c13 c14
    obtain ⟨c0, c1, c2, c3, c4, c5, c6, c7, c8, c9, c10, c11, c12, c13, c14⟩ := unhide HX y1 (unhide K1)
    go_wp2
    go_ret
    exact ⟨ret_intN HV, (unhide HB1).trans ((unhide K1).mono (unhide HB1).size)⟩
  | true =>
  cases q1 with
  | true =>
    have HV : Hid (planV true true kl re q2 q3 = 1) := hide rfl
    obtain ⟨c0, c1, c2, c3, c4, c5, c6, c7, c8, c9, c10, c11, c12, c13, c14⟩ := unhide HX W1 (Below.refl _ _)
    go_enter Tryd.func8, Tryd.ntmps8
    go_upto_region 1 with fail
    rw [← unhide HW1]
    go_wp2_with fail
    refine (unhide N0 _).mono ?_
    rintro e y1 ⟨rfl, k1⟩
    have K1 := hide k1
    clear k1
    clear c0 c1 c2 c3 c4 c5 c6 c7 c8 c9 c10 c11 c12 c13 c14
    obtain ⟨c0, c1, c2, c3, c4, c5, c6, c7, c8, c9, c10, c11, c12, c13, c14⟩ := unhide HX y1 (unhide K1)
    go_wp2_with fail
    refine (unhide N1 _ (unhide K1)).mono ?_
    rintro e y2 ⟨rfl, k2⟩
    have K2 := hide ((unhide K1).trans (k2.mono (unhide K1).size))
    clear k2
    clear c0 c1 c2 c3 c4 c5 c6 c7 c8 c9 c10 c11 c12 c13 c14
    obtain ⟨c0, c1, c2, c3, c4, c5, c6, c7, c8, c9, c10, c11, c12, c13, c14⟩ := unhide HX y2 (unhide K2)
    go_wp2
    go_ret
    exact ⟨ret_intN HV, (unhide HB1).trans ((unhide K2).mono (unhide HB1).size)⟩
  | false =>
  by_cases hl : 50 < kl
  case pos =>
    have HV : Hid (planV true false kl re q2 q3 = 2) := hide (by show (if 50 < kl then (2 : Int) else _) = 2; rw [if_pos hl])
    have hl' : (50 : Int) < (kl : Int) := by omega
    clear hl
    obtain ⟨c0, c1, c2, c3, c4, c5, c6, c7, c8, c9, c10, c11, c12, c13, c14⟩ := unhide HX W1 (Below.refl _ _)
    go_enter Tryd.func8, Tryd.ntmps8
    go_upto_region 1 with fail
    rw [← unhide HW1]
    go_wp2_with fail
    refine (unhide N0 _).mono ?_
    rintro e y1 ⟨rfl, k1⟩
    have K1 := hide k1
    clear k1
    clear c0 c1 c2 c3 c4 c5 c6 c7 c8 c9 c10 c11 c12 c13 c14
    obtain ⟨c0, c1, c2, c3, c4, c5, c6, c7, c8, c9, c10, c11, c12, c13, c14⟩ := unhide HX y1 (unhide K1)
    go_wp2_with fail
    refine (unhide N1 _ (unhide K1)).mono ?_
    rintro e y2 ⟨rfl, k2⟩
    have K2 := hide ((unhide K1).trans (k2.mono (unhide K1).size))
    clear k2
    clear c0 c1 c2 c3 c4 c5 c6 c7 c8 c9 c10 c11 c12 c13 c14
    obtain ⟨c0, c1, c2, c3, c4, c5, c6, c7, c8, c9, c10, c11, c12, c13, c14⟩ := unhide HX y2 (unhide K2)
    go_wp2
    go_ret
    exact ⟨ret_intN HV, (unhide HB1).trans ((unhide K2).mono (unhide HB1).size)⟩
  have hl' : ¬ (50 : Int) < (kl : Int) := by omega
  by_cases hr : re = 0
  case neg =>
    have HV : Hid (planV true false kl re q2 q3 = re) := hide (by show (if 50 < kl then (2 : Int) else if re ≠ 0 then re else _) = re; rw [if_neg hl, if_pos hr])
    have hr' : (re != 0) = true := by simpa using hr
    clear hl hr
    obtain ⟨c0, c1, c2, c3, c4, c5, c6, c7, c8, c9, c10, c11, c12, c13, c14⟩ := unhide HX W1 (Below.refl _ _)
    go_enter Tryd.func8, Tryd.ntmps8
    go_upto_region 1 with fail
    rw [← unhide HW1]
    go_wp2_with fail
    refine (unhide N0 _).mono ?_
    rintro e y1 ⟨rfl, k1⟩
    have K1 := hide k1
    clear k1
    clear c0 c1 c2 c3 c4 c5 c6 c7 c8 c9 c10 c11 c12 c13 c14
    obtain ⟨c0, c1, c2, c3, c4, c5, c6, c7, c8, c9, c10, c11, c12, c13, c14⟩ := unhide HX y1 (unhide K1)
    go_wp2_with fail
    refine (unhide N1 _ (unhide K1)).mono ?_
    rintro e y2 ⟨rfl, k2⟩
    have K2 := hide ((unhide K1).trans (k2.mono (unhide K1).size))
    clear k2
    clear c0 c1 c2 c3 c4 c5 c6 c7 c8 c9 c10 c11 c12 c13 c14
    obtain ⟨c0, c1, c2, c3, c4, c5, c6, c7, c8, c9, c10, c11, c12, c13, c14⟩ := unhide HX y2 (unhide K2)
    go_wp2_with fail
    refine (unhide NR _).mono ?_
    rintro e y3 ⟨rfl, k3⟩
    have K3 := hide ((unhide K2).trans (k3.mono (unhide K2).size))
    clear k3
    clear c0 c1 c2 c3 c4 c5 c6 c7 c8 c9 c10 c11 c12 c13 c14
    obtain ⟨c0, c1, c2, c3, c4, c5, c6, c7, c8, c9, c10, c11, c12, c13, c14⟩ := unhide HX y3 (unhide K3)
    go_wp2
    go_ret
    exact ⟨ret_intN HV, (unhide HB1).trans ((unhide K3).mono (unhide HB1).size)⟩
  subst hr
  cases q2 with
  | false =>
    have HV : Hid (planV true false kl 0 false q3 = 3) := hide (by show (if 50 < kl then (2 : Int) else _) = 3; rw [if_neg hl]; rfl)
    clear hl
    obtain ⟨c0, c1, c2, c3, c4, c5, c6, c7, c8, c9, c10, c11, c12, c13, c14⟩ := unhide HX W1 (Below.refl _ _)
    go_enter Tryd.func8, Tryd.ntmps8
    go_upto_region 1 with fail
    rw [← unhide HW1]
    go_wp2_with fail
    refine (unhide N0 _).mono ?_
    rintro e y1 ⟨rfl, k1⟩
    have K1 := hide k1
    clear k1
    clear c0 c1 c2 c3 c4 c5 c6 c7 c8 c9 c10 c11 c12 c13 c14
    obtain ⟨c0, c1, c2, c3, c4, c5, c6, c7, c8, c9, c10, c11, c12, c13, c14⟩ := unhide HX y1 (unhide K1)
    go_wp2_with fail
    refine (unhide N1 _ (unhide K1)).mono ?_
    rintro e y2 ⟨rfl, k2⟩
    have K2 := hide ((unhide K1).trans (k2.mono (unhide K1).size))
    clear k2
    clear c0 c1 c2 c3 c4 c5 c6 c7 c8 c9 c10 c11 c12 c13 c14
    obtain ⟨c0, c1, c2, c3, c4, c5, c6, c7, c8, c9, c10, c11, c12, c13, c14⟩ := unhide HX y2 (unhide K2)
    go_wp2_with fail
    refine (unhide NR _).mono ?_
    rintro e y3 ⟨rfl, k3⟩
    have K3 := hide ((unhide K2).trans (k3.mono (unhide K2).size))
    clear k3
    clear c0 c1 c2 c3 c4 c5 c6 c7 c8 c9 c10 c11 c12 c13 c14
    obtain ⟨c0, c1, c2, c3, c4, c5, c6, c7, c8, c9, c10, c11, c12, c13, c14⟩ := unhide HX y3 (unhide K3)
    go_wp2_with fail
    refine (unhide NW _).mono ?_
    rintro e y4 ⟨rfl, hy⟩
    have hy' := hy.symm
    subst hy'
    clear hy
    go_wp2
    go_ret
    exact ⟨ret_intN HV, (unhide HB1).trans ((unhide K3).mono (unhide HB1).size)⟩
  | true =>
  cases q3 with
  | false =>
    have HV : Hid (planV true false kl 0 true false = 3) := hide (by show (if 50 < kl then (2 : Int) else _) = 3; rw [if_neg hl]; rfl)
    clear hl
    obtain ⟨c0, c1, c2, c3, c4, c5, c6, c7, c8, c9, c10, c11, c12, c13, c14⟩ := unhide HX W1 (Below.refl _ _)
    go_enter Tryd.func8, Tryd.ntmps8
    go_upto_region 1 with fail
    rw [← unhide HW1]
    go_wp2_with fail
    refine (unhide N0 _).mono ?_
    rintro e y1 ⟨rfl, k1⟩
    have K1 := hide k1
    clear k1
    clear c0 c1 c2 c3 c4 c5 c6 c7 c8 c9 c10 c11 c12 c13 c14
    obtain ⟨c0, c1, c2, c3, c4, c5, c6, c7, c8, c9, c10, c11, c12, c13, c14⟩ := unhide HX y1 (unhide K1)
    go_wp2_with fail
    refine (unhide N1 _ (unhide K1)).mono ?_
    rintro e y2 ⟨rfl, k2⟩
    have K2 := hide ((unhide K1).trans (k2.mono (unhide K1).size))
    clear k2
    clear c0 c1 c2 c3 c4 c5 c6 c7 c8 c9 c10 c11 c12 c13 c14
    obtain ⟨c0, c1, c2, c3, c4, c5, c6, c7, c8, c9, c10, c11, c12, c13, c14⟩ := unhide HX y2 (unhide K2)
    go_wp2_with fail
    refine (unhide NR _).mono ?_
    rintro e y3 ⟨rfl, k3⟩
    have K3 := hide ((unhide K2).trans (k3.mono (unhide K2).size))
    clear k3
    clear c0 c1 c2 c3 c4 c5 c6 c7 c8 c9 c10 c11 c12 c13 c14
    obtain ⟨c0, c1, c2, c3, c4, c5, c6, c7, c8, c9, c10, c11, c12, c13, c14⟩ := unhide HX y3 (unhide K3)
    go_wp2_with fail
    refine (unhide NW _).mono ?_
    rintro e y4 ⟨rfl, hy⟩
    have hy' := hy.symm
    subst hy'
    clear hy
    go_wp2_with fail
    refine (unhide NM _).mono ?_
    rintro e y5 ⟨rfl, k5⟩
    have K5 := hide ((unhide K3).trans (k5.mono (unhide K3).size))
    clear k5
    go_wp2
    go_ret
    exact ⟨ret_intN HV, (unhide HB1).trans ((unhide K5).mono (unhide HB1).size)⟩
  | true =>
    have HV : Hid (planV true false kl 0 true true = 0) := hide (by show (if 50 < kl then (2 : Int) else _) = 0; rw [if_neg hl]; rfl)
    clear hl
    obtain ⟨c0, c1, c2, c3, c4, c5, c6, c7, c8, c9, c10, c11, c12, c13, c14⟩ := unhide HX W1 (Below.refl _ _)
    go_enter Tryd.func8, Tryd.ntmps8
    go_upto_region 1 with fail
    rw [← unhide HW1]
    go_wp2_with fail
    refine (unhide N0 _).mono ?_
    rintro e y1 ⟨rfl, k1⟩
    have K1 := hide k1
    clear k1
    clear c0 c1 c2 c3 c4 c5 c6 c7 c8 c9 c10 c11 c12 c13 c14
    obtain ⟨c0, c1, c2, c3, c4, c5, c6, c7, c8, c9, c10, c11, c12, c13, c14⟩ := unhide HX y1 (unhide K1)
    go_wp2_with fail
    refine (unhide N1 _ (unhide K1)).mono ?_
    rintro e y2 ⟨rfl, k2⟩
    have K2 := hide ((unhide K1).trans (k2.mono (unhide K1).size))
    clear k2
    clear c0 c1 c2 c3 c4 c5 c6 c7 c8 c9 c10 c11 c12 c13 c14
    obtain ⟨c0, c1, c2, c3, c4, c5, c6, c7, c8, c9, c10, c11, c12, c13, c14⟩ := unhide HX y2 (unhide K2)
    go_wp2_with fail
    refine (unhide NR _).mono ?_
    rintro e y3 ⟨rfl, k3⟩
    have K3 := hide ((unhide K2).trans (k3.mono (unhide K2).size))
    clear k3
    clear c0 c1 c2 c3 c4 c5 c6 c7 c8 c9 c10 c11 c12 c13 c14
    obtain ⟨c0, c1, c2, c3, c4, c5, c6, c7, c8, c9, c10, c11, c12, c13, c14⟩ := unhide HX y3 (unhide K3)
    go_wp2_with fail
    refine (unhide NW _).mono ?_
    rintro e y4 ⟨rfl, hy⟩
    have hy' := hy.symm
    subst hy'
    clear hy
    go_wp2_with fail
    refine (unhide NM _).mono ?_
    rintro e y5 ⟨rfl, k5⟩
    have K5 := hide ((unhide K3).trans (k5.mono (unhide K3).size))
    clear k5
    go_wp2
    go_ret
    exact ⟨ret_intN HV, (unhide HB1).trans ((unhide K5).mono (unhide HB1).size)⟩
end Go.Proofs.YtfpglpefofcdeaaDoor
