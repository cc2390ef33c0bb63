/- A file read, by the program: of five parts. -/
import Derived.Test.YtfpglpefofcdeaaGreatDoorM22
namespace Go.Proofs.YtfpglpefofcdeaaGreatDoor
open Go.RowKit
set_option linter.unusedVariables false
set_option linter.unusedSimpArgs false
set_option maxRecDepth 100000

theorem nob13 : NoB #[Value.string ⟨#[]⟩, .slice none 0 0, .string ⟨#[]⟩, .string ⟨#[]⟩, .string ⟨#[]⟩, .string ⟨#[]⟩, .int .i64 0, .int .i64 0, .slice none 0 0, .int .i64 0, .int .i64 0, .int .i64 0, .slice none 0 0] := noB_of rfl
set_option maxHeartbeats 4000000 in
theorem fileOf_yes (s p0 p1 p2 p3 p4 : ByteArray) (w : World) (hs : s.size ≤ 65535) (h : cutR 65536 s = [p0, p1, p2, p3, p4]) :
    Calls Tryz.prog 58 #[.string s] w fun e w' => (∃ f, e = .returned (.agg (flC f)) ∧ FlOK w' f ∧ f.strip = flQ p0 p1 p2 p3 p4 ∧ ∀ p, f.ro = some p → w.heap.size < p.block) ∧ Below w.heap.size w w' := by
  have hle := cutR_le 65536 s
  rw [h] at hle
  have z0 : p0.size ≤ 65535 := Nat.le_trans (hle p0 (by simp)) hs
  have z1 : p1.size ≤ 65535 := Nat.le_trans (hle p1 (by simp)) hs
  have z2 : p2.size ≤ 65535 := Nat.le_trans (hle p2 (by simp)) hs
  have z3 : p3.size ≤ 65535 := Nat.le_trans (hle p3 (by simp)) hs
  have z4 : p4.size ≤ 65535 := Nat.le_trans (hle p4 (by simp)) hs
  obtain ⟨W1, hW1⟩ : ∃ W1, W1 = w.alloc (.cells #[.string ⟨#[]⟩, .slice none 0 0, .string ⟨#[]⟩, .string ⟨#[]⟩, .string ⟨#[]⟩, .string ⟨#[]⟩, .int .i64 0, .int .i64 0, .slice none 0 0, .int .i64 0, .int .i64 0, .int .i64 0, .slice none 0 0] 33) := ⟨_, rfl⟩
  have hB1 : Below w.heap.size w W1 := by rw [hW1]; exact (Below.refl _ _).alloc (Nat.le_refl _) _
  have hX1 : W1.heap[w.heap.size]? = some (.cells #[.string ⟨#[]⟩, .slice none 0 0, .string ⟨#[]⟩, .string ⟨#[]⟩, .string ⟨#[]⟩, .string ⟨#[]⟩, .int .i64 0, .int .i64 0, .slice none 0 0, .int .i64 0, .int .i64 0, .int .i64 0, .slice none 0 0] 33 (0, 0)) := by rw [hW1]; exact heap_alloc_new _ _
  have n1 := cutRow_any s W1 hs
  rw [h] at n1
  have N1 := hide n1
  have N2 := hide (fun W => pparse_any p1 W (by unfold maxLen; omega))
  have N3 := hide (fun W => parseF_any p4 W (by unfold maxLen; omega))
  have N4 := hide (fun W => waysOf_any p2 W z2)
  have N5 := hide (fun W => masksOf_any p3 W)
  have HWZ := hide (fun W => wayZ_ok W p2)
  have HPF := hide (parsed_okT p4.data.toList)
  have HMK : Hid (maskD p3 ≤ 9223372036854775807 ∧ maskO p3 ≤ 9223372036854775807 ∧ maskF p3 ≤ 9223372036854775807) := hide (by
    unfold maskD maskO maskF
    refine ⟨?_, ?_, ?_⟩ <;> split <;> first | exact (readV_bound _).2 | decide)
  unfold flQ
  generalize readsL p1 = apps at *
  generalize readsE p1 = ae at *
  generalize wayX p2 = wx at *
  generalize wayY p2 = wy at *
  generalize wayZ p2 = wl at *
  generalize maskD p3 = md at *
  generalize maskO p3 = mo at *
  generalize maskF p3 = mf at *
  generalize parsed p4.data.toList = row at *
  generalize parseE p4.data.toList = re at *
  have HZ := hide (show p0.size ≤ maxLen ∧ p2.size ≤ maxLen from ⟨by unfold maxLen; omega, by unfold maxLen; omega⟩)
  have HB1 := hide hB1; have HX1 := hide hX1; have HW1 := hide hW1
  clear hs h hB1 hX1 hW1 n1 hle z0 z1 z2 z3 z4
  go_enter Tryz.func58, Tryz.ntmps58
  go_upto_region 1 with fail
  rw [← unhide HW1]
  go_wp2_with fail
  refine (unhide N1).mono ?_
  rintro e y1 ⟨⟨v, rfl, hrow⟩, k1⟩
  rcases row_cellT hrow with ⟨hn, _⟩ | ⟨g, cap, hv, hg, hc⟩
  · cases hn
  have hv : v = .slice (some ⟨g, 0, none⟩) 5 cap := hv
  subst hv
  have c0 : y1.cell? ⟨g, 0, none⟩ = some (.string p0) := hc 0 p0 rfl
  have c1 : y1.cell? ⟨g, 1, none⟩ = some (.string p1) := hc 1 p1 rfl
  have c2 : y1.cell? ⟨g, 2, none⟩ = some (.string p2) := hc 2 p2 rfl
  have c3 : y1.cell? ⟨g, 3, none⟩ = some (.string p3) := hc 3 p3 rfl
  have c4 : y1.cell? ⟨g, 4, none⟩ = some (.string p4) := hc 4 p4 rfl
  have HC : Hid (∀ W, Below y1.heap.size y1 W → W.cell? ⟨g, 0, none⟩ = some (.string p0) ∧ W.cell? ⟨g, 1, none⟩ = some (.string p1) ∧ W.cell? ⟨g, 2, none⟩ = some (.string p2) ∧ W.cell? ⟨g, 3, none⟩ = some (.string p3) ∧ W.cell? ⟨g, 4, none⟩ = some (.string p4)) := hide (fun W hb =>
    ⟨(hb.cell (p := ⟨g, 0, none⟩) hg).trans c0, (hb.cell (p := ⟨g, 1, none⟩) hg).trans c1, (hb.cell (p := ⟨g, 2, none⟩) hg).trans c2, (hb.cell (p := ⟨g, 3, none⟩) hg).trans c3, (hb.cell (p := ⟨g, 4, none⟩) hg).trans c4⟩)
  have x1 := (k1.block _ (block_ltQ (unhide HX1))).trans (unhide HX1)
  have HX2 := hide (fun W (hb : Below y1.heap.size y1 W) => (hb.block _ (block_ltQ x1)).trans x1)
  have HLT := hide (block_ltQ x1)
  have HB2 := hide ((unhide HB1).trans (k1.mono (unhide HB1).size))
  clear hrow k1 x1 HB1 HX1 N1 HW1 hc
  go_wp2_with fail
  refine (unhide N2 _).mono ?_
  rintro e y2 ⟨⟨apo, apc, rfl, hra⟩, k2⟩
  have HRA := hide hra
  have HK2 := hide k2
  clear c0 c1 c2 c3 c4 hra k2 N2
  obtain ⟨c0, c1, c2, c3, c4⟩ := unhide HC y2 (unhide HK2)
  go_wp2_with fail
  refine (unhide N3 _).mono ?_
  rintro e y3 ⟨v3, rfl, hr3, k3⟩
  obtain ⟨ro, rc, rfl, hfr, hro⟩ := frow_ownT hr3
  have HRO : Hid (∀ p, ro = some p → w.heap.size < p.block) := hide (fun p hp => by
    have h1 := hro p hp; have h2 := unhide HLT; have h3 := (unhide HK2).size
    omega)
  have HFR := hide hfr
  have HRA3 := hide ((unhide HRA).below k3)
  have HK3 := hide ((unhide HK2).trans (k3.mono (unhide HK2).size))
  clear c0 c1 c2 c3 c4 hr3 hfr hro k3 N3 HRA HK2
  obtain ⟨c0, c1, c2, c3, c4⟩ := unhide HC y3 (unhide HK3)
  go_upto_region 6 with fail
  go_wp2_with fail
  go_region_law ((first
    | (refine step_call1T (by rfl) 95 _ _ (by rfl) (.string p2) (by rfl) ent_waysOf (unhide N4 _) ?_; rintro ev z1 ⟨⟨v4, rfl, hr4⟩, j1⟩; obtain ⟨wo, wc, rfl, hrw⟩ := rowWay_own hr4 (unhide HWZ z1).1 (Nat.le_trans (unhide HWZ z1).2 (unhide HZ).2); refine ⟨_, rfl, ?_⟩; have j1' : Below y1.heap.size y1 z1 := ((unhide HK3).drew).trans (j1.mono (unhide HK3).size); obtain ⟨d0, d1, d2, d3, d4⟩ := unhide HC z1 j1')
    | (refine step_call1T (by rfl) 96 _ _ (by rfl) (.string p3) (by rfl) ent_masksOf (unhide N5 _) ?_; rintro ev z2 ⟨rfl, j2⟩; refine ⟨_, rfl, ?_⟩; have j2' : Below y1.heap.size y1 z2 := j1'.trans (j2.mono j1'.size); obtain ⟨e0, e1, e2, e3, e4⟩ := unhide HC z2 j2'; have hx2 := unhide HX2 z2 j2'; have q0 : z2.cell? ⟨w.heap.size, 0, none⟩ = some (.string ⟨#[]⟩) := cell_of_row _ _ 0 _ _ _ hx2; have q1 : z2.cell? ⟨w.heap.size, 1, none⟩ = some (.slice none 0 0) := cell_of_row _ _ 1 _ _ _ hx2; have q2 : z2.cell? ⟨w.heap.size, 2, none⟩ = some (.string ⟨#[]⟩) := cell_of_row _ _ 2 _ _ _ hx2; have q3 : z2.cell? ⟨w.heap.size, 3, none⟩ = some (.string ⟨#[]⟩) := cell_of_row _ _ 3 _ _ _ hx2; have q4 : z2.cell? ⟨w.heap.size, 4, none⟩ = some (.string ⟨#[]⟩) := cell_of_row _ _ 4 _ _ _ hx2; have q5 : z2.cell? ⟨w.heap.size, 5, none⟩ = some (.string ⟨#[]⟩) := cell_of_row _ _ 5 _ _ _ hx2; have q6 : z2.cell? ⟨w.heap.size, 6, none⟩ = some (.int .i64 0) := cell_of_row _ _ 6 _ _ _ hx2; have q7 : z2.cell? ⟨w.heap.size, 7, none⟩ = some (.int .i64 0) := cell_of_row _ _ 7 _ _ _ hx2; have q8 : z2.cell? ⟨w.heap.size, 8, none⟩ = some (.slice none 0 0) := cell_of_row _ _ 8 _ _ _ hx2; have q9 : z2.cell? ⟨w.heap.size, 9, none⟩ = some (.int .i64 0) := cell_of_row _ _ 9 _ _ _ hx2; have q10 : z2.cell? ⟨w.heap.size, 10, none⟩ = some (.int .i64 0) := cell_of_row _ _ 10 _ _ _ hx2; have q11 : z2.cell? ⟨w.heap.size, 11, none⟩ = some (.int .i64 0) := cell_of_row _ _ 11 _ _ _ hx2; have q12 : z2.cell? ⟨w.heap.size, 12, none⟩ = some (.slice none 0 0) := cell_of_row _ _ 12 _ _ _ hx2; have qf : ∀ o, z2.frozen? ⟨w.heap.size, o, none⟩ = false := fun o => frozen_of_row _ _ o _ _ hx2)
    | fail))
  all_goals
    have hX := unhide HX2 z2 j2'
    have hn := nob13
    have j13 : Below y3.heap.size y3 z1 := (Below.refl _ _).drew.trans j1
    have j23 : Below y3.heap.size y3 z2 := j13.trans (j2.mono j13.size)
    have hok : FlOK z2 ⟨p0, apo, apps, apc, ⟨#[]⟩, ⟨#[]⟩, ⟨#[]⟩, ⟨#[]⟩, ⟨wx, wy, wo, wl, wc⟩, md, mo, mf, ro, row, rc⟩ :=
      ⟨(unhide HZ).1, (unhide HRA3).below j23, hrw.below j2, (unhide HFR).below j23, (unhide HPF).2, by have := (unhide HPF).1; show (row.length : Int) ≤ _; omega, (unhide HMK).1, (unhide HMK).2.1, (unhide HMK).2.2⟩
    have hW : z2.setCells w.heap.size 0 [.string p0, .slice apo apps.length apc, .string ⟨#[]⟩, .string ⟨#[]⟩, .string ⟨#[]⟩, .string ⟨#[]⟩, .int .i64 wx, .int .i64 wy, .slice wo wl.length wc, .int .i64 md, .int .i64 mo, .int .i64 mf, .slice ro row.length rc] = z2.setRow w.heap.size #[.string p0, .slice apo apps.length apc, .string ⟨#[]⟩, .string ⟨#[]⟩, .string ⟨#[]⟩, .string ⟨#[]⟩, .int .i64 wx, .int .i64 wy, .slice wo wl.length wc, .int .i64 md, .int .i64 mo, .int .i64 mf, .slice ro row.length rc] := setCells_allT hX rfl
    have f1 : (z2.setCells w.heap.size 0 [.string p0, .slice apo apps.length apc, .string ⟨#[]⟩, .string ⟨#[]⟩, .string ⟨#[]⟩, .string ⟨#[]⟩, .int .i64 wx, .int .i64 wy, .slice wo wl.length wc, .int .i64 md, .int .i64 mo, .int .i64 mf, .slice ro row.length rc]).heap[w.heap.size]? = some (.cells #[.string p0, .slice apo apps.length apc, .string ⟨#[]⟩, .string ⟨#[]⟩, .string ⟨#[]⟩, .string ⟨#[]⟩, .int .i64 wx, .int .i64 wy, .slice wo wl.length wc, .int .i64 md, .int .i64 mo, .int .i64 mf, .slice ro row.length rc] 33 (0, 0)) := by rw [hW]; exact setRow_heap _ _ _ _ _ _ hX
    have f2 : FlOK (z2.setCells w.heap.size 0 [.string p0, .slice apo apps.length apc, .string ⟨#[]⟩, .string ⟨#[]⟩, .string ⟨#[]⟩, .string ⟨#[]⟩, .int .i64 wx, .int .i64 wy, .slice wo wl.length wc, .int .i64 md, .int .i64 mo, .int .i64 mf, .slice ro row.length rc]) ⟨p0, apo, apps, apc, ⟨#[]⟩, ⟨#[]⟩, ⟨#[]⟩, ⟨#[]⟩, ⟨wx, wy, wo, wl, wc⟩, md, mo, mf, ro, row, rc⟩ := by rw [hW]; exact flOK_setT hok hX hn (unhide HRO)
    have f3 : Below w.heap.size w (z2.setCells w.heap.size 0 [.string p0, .slice apo apps.length apc, .string ⟨#[]⟩, .string ⟨#[]⟩, .string ⟨#[]⟩, .string ⟨#[]⟩, .int .i64 wx, .int .i64 wy, .slice wo wl.length wc, .int .i64 md, .int .i64 mo, .int .i64 mf, .slice ro row.length rc]) := by rw [hW]; exact setRow_belowT ((unhide HB2).trans (j2'.mono (unhide HB2).size)) (Nat.le_refl _)
    have HF1 := hide f1; have HF2 := hide f2; have HF3 := hide f3
    clear f1 f2 f3 hW hX hok hx2
    go_wp2
    exact bodyPost_ret (v := .agg #[.string p0, .slice apo apps.length apc, .string ⟨#[]⟩, .string ⟨#[]⟩, .string ⟨#[]⟩, .string ⟨#[]⟩, .int .i64 wx, .int .i64 wy, .slice wo wl.length wc, .int .i64 md, .int .i64 mo, .int .i64 mf, .slice ro row.length rc]) (results_cell_row rfl _ _ w.heap.size 33 _ (0, 0) _ rfl (unhide HF1) Tryz.underlying33 rfl infoFl) rfl ⟨⟨⟨p0, apo, apps, apc, ⟨#[]⟩, ⟨#[]⟩, ⟨#[]⟩, ⟨#[]⟩, ⟨wx, wy, wo, wl, wc⟩, md, mo, mf, ro, row, rc⟩, rfl, unhide HF2, rfl, unhide HRO⟩, unhide HF3⟩
theorem fileOf_any (s : ByteArray) (w : World) (hs : s.size ≤ 65535) :
    Calls Tryz.prog 58 #[.string s] w fun e w' => (∃ f, e = .returned (.agg (flC f)) ∧ FlOK w' f ∧ f.strip = flP s ∧ ∀ p, f.ro = some p → w.heap.size < p.block) ∧ Below w.heap.size w w' := by
  unfold flP
  by_cases h : (cutR 65536 s).length = 5
  · obtain ⟨p0, p1, p2, p3, p4, h5⟩ := flL_five h
    rw [h5]
    exact fileOf_yes s p0 p1 p2 p3 p4 w hs h5
  · rw [flL_not h]
    refine (fileOf_no s w hs h).mono ?_
    rintro e w' ⟨rfl, hb⟩
    have r1 : RowApp w' none [] := ⟨.inl rfl, (fun x hx => by cases hx), Nat.zero_le _⟩
    have r2 : RowWay w' none [] := ⟨.inl rfl, (fun x hx => by cases hx), Nat.zero_le _⟩
    exact ⟨⟨flZ, rfl, ⟨Nat.zero_le _, r1, r2, .inl rfl, (fun f hf => by cases hf), by decide, by decide, by decide, by decide⟩, rfl, fun p hp => by cases hp⟩, hb⟩
end Go.Proofs.YtfpglpefofcdeaaGreatDoor
