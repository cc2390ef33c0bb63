/- A file read, by the document's own: where there is one. -/
import Derived.Test.YtfpglpefofcdeaaGreatDoorM47
import Derived.Test.YtfpglpefofcdeaaGreatDoorM45
import Derived.Test.YtfpglpefofcdeaaGreatDoorM48
import Derived.Test.YtfpglpefofcdeaaGreatDoorM37
import Derived.Test.YtfpglpefofcdeaaGreatDoorM27
import Derived.Test.YtfpglpefofcdeaaGreatDoorM34
import Derived.Deep.DeepCutAuto
import Derived.Deep.RegionHeld3
namespace Go.Proofs.YtfpglpefofcdeaaGreatDoor
open Go.RowKit
set_option linter.unusedVariables false
set_option linter.unusedSimpArgs false
set_option maxRecDepth 100000

theorem cell_extT {w w' : World} {A : Nat} (he : Ext (fun q => q = A) w w') {p : Addr} (hlt : p.block < w.heap.size) (h : p.block ≠ A) : w'.cell? p = w.cell? p := by
  unfold World.cell?
  rw [he.keep p.block hlt h]
theorem rowApp_ext {w w' : World} {A : Nat} {old : Array Value} {t : TypeId} {fr : Nat × Nat} {ao : Option Addr} {l : List XApp} (h : RowApp w ao l) (hg : w.heap[A]? = some (.cells old t fr)) (hn : NoB old) (he : Ext (fun q => q = A) w w') : RowApp w' ao l := by
  obtain ⟨h, ho, hm⟩ := h
  refine ⟨?_, fun x hx => ho x hx, hm⟩
  cases l with
  | nil => exact .inl rfl
  | cons x r =>
    rcases h with h | ⟨b, off, e, hlt, hc⟩
    · cases h
    · have hb : b ≠ A := by
        rintro rfl
        have h3 := (hc 0 x rfl).2.2.2
        rw [cell_of_row _ _ _ _ _ _ hg] at h3
        exact hn _ _ h3
      refine .inr ⟨b, off, e, Nat.lt_of_lt_of_le hlt he.low.size, fun i y hy => ?_⟩
      obtain ⟨c0, c1, c2, c3⟩ := hc i y hy
      exact ⟨(cell_extT he hlt hb).trans c0, (cell_extT he hlt hb).trans c1, (cell_extT he hlt hb).trans c2, (cell_extT he hlt hb).trans c3⟩
theorem frow_ext {w w' : World} {A : Nat} {ao : Option Addr} {l : List (Int × Int)} (h : FRow w ao l) (hb : ∀ p, ao = some p → A < p.block) (he : Ext (fun q => q = A) w w') : FRow w' ao l := by
  rcases h with h | ⟨b, off, e, hlt, hc⟩
  · exact .inl h
  · have hne : b ≠ A := fun h => by have := hb _ e; dsimp only at this; omega
    refine .inr ⟨b, off, e, Nat.lt_of_lt_of_le hlt he.low.size, fun i hi => ⟨(cell_extT he hlt hne).trans (hc i hi).1, (cell_extT he hlt hne).trans (hc i hi).2⟩⟩
set_option maxHeartbeats 8000000 in
theorem rfileOf_yes (s p0 p1 p2 p3 p4 : ByteArray) (w : World) (hs : s.size ≤ 65535) (h : cutG 65536 s = some [p0, p1, p2, p3, p4]) (hfb : fiveB [p0, p1, p2, p3, p4] = true) :
    Calls Tryz.prog 31 #[.string s] w fun e w' => (∃ f, e = .returned (.tuple #[.agg (flC f), .bool (okP s)]) ∧ FlOK w' f ∧ f.strip = flP s ∧ ∀ p, f.ro = some p → w.heap.size < p.block) ∧ Below w.heap.size w w' := by
  obtain ⟨i0, hi, hz0, hz1, hz2⟩ := info_parts infoStrT
  have hle : ∀ p ∈ [p0, p1, p2, p3, p4], p.size ≤ 65535 := fun p hp => by
    have := cutR_le 65536 s
    rw [cutG_cutR 65536 s _ h] at this
    exact Nat.le_trans (this p hp) hs
  have HFP : Hid (flP s = flQ p0 p1 p2 p3 p4) := hide (by unfold flP; rw [cutG_cutR 65536 s _ h]; rfl)
  obtain ⟨_, _, _, _, _, hq, k16, kb0, kb8, k6⟩ := five_parts hfb
  cases hq
  obtain ⟨C, hC⟩ : ∃ C, C = cutG 65536 s := ⟨_, rfl⟩
  rw [← hC] at h
  obtain ⟨W1, hW1⟩ : ∃ W1, W1 = w.alloc (.cells #[.string ⟨#[]⟩, .slice none 0 0, .string ⟨#[]⟩, .string ⟨#[]⟩, .string ⟨#[]⟩, .string ⟨#[]⟩, .int .i64 0, .int .i64 0, .slice none 0 0, .int .i64 0, .int .i64 0, .int .i64 0, .slice none 0 0] 33) := ⟨_, rfl⟩
  have hB1 : Below w.heap.size w W1 := by rw [hW1]; exact (Below.refl _ _).alloc (Nat.le_refl _) _
  have hX1 : W1.heap[w.heap.size]? = some (.cells #[.string ⟨#[]⟩, .slice none 0 0, .string ⟨#[]⟩, .string ⟨#[]⟩, .string ⟨#[]⟩, .string ⟨#[]⟩, .int .i64 0, .int .i64 0, .slice none 0 0, .int .i64 0, .int .i64 0, .int .i64 0, .slice none 0 0] 33 (0, 0)) := by rw [hW1]; exact heap_alloc_new _ _
  have HX := hide (fun W (hb : Below W1.heap.size W1 W) => (hb.block _ (block_ltQ hX1)).trans hX1)
  have HCC := hide hC; have HH := hide h; have HB1 := hide hB1; have HW1 := hide hW1
  have HI := hide hi; have Z0 := hide hz0; have Z1 := hide hz1; have Z2 := hide hz2; have HSZ := hide hs
  have HK := hide (And.intro k16 (And.intro kb0 (And.intro kb8 k6))); have HLEE := hide hle
  clear hi hz0 hz1 hz2 hC hs h hB1 hX1 hW1 k16 kb0 kb8 k6 hle hfb
  go_enter Tryz.func31, Tryz.ntmps31
  go_upto_region 1 with fail
  rw [← unhide HW1]
  go_wp2
  go_loopw [4, 5] (fun lv sv wx => ∃ (t : ByteArray) (l : List ByteArray), sv = .string t ∧ t.size + 4 * l.length ≤ 65535 ∧ C = (cutG (65536 - l.length) t).map (l ++ ·) ∧ wx.ownsRow W1.heap.size 9 1 lv l.length (rowT l) ∧ Below W1.heap.size W1 wx) (fun _ sv _ => strLen sv)
  case atStart => exact ⟨s, [], rfl, by have := unhide HSZ; simpa using this, by rw [unhide HCC]; simp, World.ownsRow_nil _ _ _ _, Below.refl _ _⟩
  case round =>
    obtain ⟨t, l, rfl, hz, hTl, ho, hbw⟩ := hrel
    obtain ⟨k, hk⟩ : ∃ k, 65536 - l.length = k + 1 := ⟨65535 - l.length, by omega⟩
    rw [hk] at hTl
    have hx := unhide HX wr hbw
    by_cases h0 : t.size = 0
    · obtain rfl : t = ⟨#[]⟩ := eq_of_list (List.length_eq_zero_iff.1 (by rw [← size_list]; exact h0))
      rw [cutG_nil rfl] at hTl
      obtain rfl : l = [p0, p1, p2, p3, p4] := by
        have := unhide HH
        rw [hTl] at this
        simpa using this
      rcases row_cellT ho with ⟨hn, _⟩ | ⟨g, cap, hv, hg, hc⟩
      · cases hn
      have hv : u4 = .slice (some ⟨g, 0, none⟩) 5 cap := hv
      subst hv
      have HC : Hid (∀ W, Below wr.heap.size wr W → W.cell? ⟨g, 0, none⟩ = some (.string p0) ∧ W.cell? ⟨g, 1, none⟩ = some (.string p1) ∧ W.cell? ⟨g, 2, none⟩ = some (.string p2) ∧ W.cell? ⟨g, 3, none⟩ = some (.string p3) ∧ W.cell? ⟨g, 4, none⟩ = some (.string p4)) := hide (fun W hb =>
        ⟨(hb.cell (p := ⟨g, 0, none⟩) hg).trans (hc 0 p0 rfl), (hb.cell (p := ⟨g, 1, none⟩) hg).trans (hc 1 p1 rfl), (hb.cell (p := ⟨g, 2, none⟩) hg).trans (hc 2 p2 rfl), (hb.cell (p := ⟨g, 3, none⟩) hg).trans (hc 3 p3 rfl), (hb.cell (p := ⟨g, 4, none⟩) hg).trans (hc 4 p4 rfl)⟩)
      obtain ⟨c0, c1, c2, c3, c4⟩ := unhide HC wr (Below.refl _ _)
      obtain ⟨k16, kb0, kb8, k6⟩ := unhide HK
      have t1 : ¬ (p2.size : Int) < 16 := by omega
      have l0 : 0 < p2.size := by omega
      have l8 : 8 < p2.size := by omega
      have g0 : ((p2[0]'l0).toNat : Int) = (byteAt p2 0 : Int) := get_byte p2 0 l0
      have g8 : ((p2[8]'l8).toNat : Int) = (byteAt p2 8 : Int) := get_byte p2 8 l8
      have t2 : ¬ (127 : Int) < (byteAt p2 0 : Int) := by omega
      have t3 : ¬ (127 : Int) < (byteAt p2 8 : Int) := by omega
      have t4 : ((p3.size : Int) != 6) = false := by simp; omega
      have li : (16 : Int) ≤ (p2.size : Int) := by omega
      obtain ⟨q0, hq0⟩ : ∃ q, q = p2.extract 0 8 := ⟨_, rfl⟩
      obtain ⟨q1, hq1⟩ : ∃ q, q = p2.extract 8 16 := ⟨_, rfl⟩
      obtain ⟨q2, hq2⟩ : ∃ q, q = p2.extract 16 p2.size := ⟨_, rfl⟩
      have v0 := (top_ok (s := p2) (i := 0) (by omega)).1 kb0
      have v1 := (top_ok (s := p2) (i := 8) (by omega)).1 kb8
      have N0 := hide (fun W => value_any q0 W (by rw [hq0, ByteArray.size_extract]; omega) (by rw [hq0]; exact v0))
      have N1 := hide (fun W => value_any q1 W (by rw [hq1, ByteArray.size_extract]; omega) (by rw [hq1]; exact v1))
      have hX : Hid (wayX p2 = (valN q0.data.toList : Int)) := hide (by unfold wayX; rw [if_neg (by omega), ← hq0]; exact readV_val (by rw [hq0, ByteArray.size_extract]; omega) (by rw [hq0]; exact v0))
      have hY : Hid (wayY p2 = (valN q1.data.toList : Int)) := hide (by unfold wayY; rw [if_neg (by omega), ← hq1]; exact readV_val (by rw [hq1, ByteArray.size_extract]; omega) (by rw [hq1]; exact v1))
      have hs0 : ∀ wx, (Instr.slice 9 (.string p2) none (some (.int .i64 8)) none).run Tryz.prog wx = .ok (.string q0) wx := fun wx => by rw [hq0]; exact run_slice_string_h (P := Tryz.prog) wx 9 p2 Tryz.underlying9 .i64 8 (by omega) (by omega)
      have hs1 : ∀ wx, (Instr.slice 9 (.string p2) (some (.int .i64 8)) (some (.int .i64 16)) none).run Tryz.prog wx = .ok (.string q1) wx := fun wx => by rw [hq1]; exact run_slice_string (P := Tryz.prog) wx 9 p2 .i64 .i64 8 16 Tryz.underlying9 (by omega) (by omega) (by omega)
      have hs2 : ∀ wx, (Instr.slice 9 (.string p2) (some (.int .i64 16)) none none).run Tryz.prog wx = .ok (.string q2) wx := fun wx => by rw [hq2]; exact run_slice_string_l (P := Tryz.prog) wx 9 p2 Tryz.underlying9 .i64 16 (by omega) (by omega)
      have HQ2 := hide hq2; have HBW := hide hbw; have HXX := hide hx
      generalize valN q0.data.toList = vx at *
      generalize valN q1.data.toList = vy at *
      generalize byteAt p2 0 = b0 at *
      generalize byteAt p2 8 = b8 at *
      clear ho hbw hx hTl hz hk h0 hc hq0 hq1 hq2 v0 v1 k16 kb0 kb8
      go_upto_region 11 with fail
      obtain ⟨W2, hW2⟩ : ∃ W2, W2 = wr.alloc (.cells #[.string p0, .slice none 0 0, .string ⟨#[]⟩, .string ⟨#[]⟩, .string ⟨#[]⟩, .string ⟨#[]⟩, .int .i64 (vx : Int), .int .i64 (vy : Int), .slice none 0 0, .int .i64 0, .int .i64 0, .int .i64 0, .slice none 0 0] 33) := ⟨_, rfl⟩
      have HW2 := hide hW2
      clear hW2
      go_cut [7] (fun v7 wx => v7 = .pointer (some ⟨wr.heap.size, 0, none⟩) ∧ wx = W2.drew)
      case first =>
        go_wp2_with fail
        have hlt : g < wr.heap.size := hg
        go_region_held3 (fun W => W.cell? ⟨g, 0, none⟩ = some (.string p0) ∧ W.cell? ⟨g, 2, none⟩ = some (.string p2))
          (first | (with_reducible exact ⟨c0, c2⟩) | exact ⟨c0, c2⟩ | exact ⟨((Below.refl wr.heap.size wr).alloc (Nat.le_refl _) _).cell (p := ⟨g, 0, none⟩) hlt |>.trans c0, ((Below.refl wr.heap.size wr).alloc (Nat.le_refl _) _).cell (p := ⟨g, 2, none⟩) hlt |>.trans c2⟩ | go_keep)
          ((first | (go_at_call_of 64 (Value.string q0); refine (unhide N0 _).mono ?_; rintro e y0 ⟨rfl, hy⟩; subst hy) | (go_at_call_of 64 (Value.string q1); refine (unhide N1 _).mono ?_; rintro e y1 ⟨rfl, hy⟩; subst hy)))
        all_goals
          go_wp2_with fail
          go_meet
          exact ⟨rfl, by rw [unhide HW2]⟩
      case rest =>
      obtain ⟨rfl, hwc⟩ := hcut
      rw [hwc]
      clear hwc
      have hb2 : Below wr.heap.size wr W2.drew := by rw [unhide HW2]; exact ((Below.refl _ _).alloc (Nat.le_refl _) _).drew
      have x2 : W2.drew.heap[wr.heap.size]? = some (.cells #[.string p0, .slice none 0 0, .string ⟨#[]⟩, .string ⟨#[]⟩, .string ⟨#[]⟩, .string ⟨#[]⟩, .int .i64 (vx : Int), .int .i64 (vy : Int), .slice none 0 0, .int .i64 0, .int .i64 0, .int .i64 0, .slice none 0 0] 33 (0, 0)) := by rw [unhide HW2]; exact heap_alloc_new _ _
      have hl1 := unhide HLEE p1 (by simp)
      have hl4 := unhide HLEE p4 (by simp)
      have NA := hide (fun W => readApps_any (fun l ao cap w hr => appsText_any l ao cap w hr) p1 W (by unfold maxLen; omega))
      have NF := hide (fun W => rparseF_any p4 W (by unfold maxLen; omega))
      have HPF := hide (parsed_okT p4.data.toList)
      generalize hal : readsL p1 = al at *
      generalize readsE p1 = ae at *
      generalize hrow : parsed p4.data.toList = row at *
      generalize parseE p4.data.toList = re at *
      have HAL := hide hal; have HROW := hide hrow
      clear c0 c1 c2 c3 c4 hl1 hl4 hal hrow
      obtain ⟨c0, c1, c2, c3, c4⟩ := unhide HC W2.drew hb2
      go_wp2_with fail
      refine (unhide NA _).mono ?_
      rintro e y1 ⟨⟨ao, ac, rfl, hra⟩, k1⟩
      have x3 := (k1.block _ (block_ltQ x2)).trans x2
      have hb3 := belowTr hb2 k1
      have d1 : y1.cell? ⟨wr.heap.size, 1, none⟩ = some (.slice none 0 0) := cell_of_row _ _ 1 _ _ _ x3
      have e1 : y1.frozen? ⟨wr.heap.size, 1, none⟩ = false := frozen_of_row _ _ 1 _ _ x3
      obtain ⟨W4, hW4⟩ : ∃ W4, W4 = y1.setCell ⟨wr.heap.size, 1, none⟩ (.slice ao al.length ac) := ⟨_, rfl⟩
      have hR4 : W4 = y1.setRow wr.heap.size #[.string p0, .slice ao al.length ac, .string ⟨#[]⟩, .string ⟨#[]⟩, .string ⟨#[]⟩, .string ⟨#[]⟩, .int .i64 (vx : Int), .int .i64 (vy : Int), .slice none 0 0, .int .i64 0, .int .i64 0, .int .i64 0, .slice none 0 0] := by rw [hW4, setCell_eq_setRow y1 wr.heap.size 1 _ _ _ _ x3]; rfl
      have x4 : W4.heap[wr.heap.size]? = some (.cells #[.string p0, .slice ao al.length ac, .string ⟨#[]⟩, .string ⟨#[]⟩, .string ⟨#[]⟩, .string ⟨#[]⟩, .int .i64 (vx : Int), .int .i64 (vy : Int), .slice none 0 0, .int .i64 0, .int .i64 0, .int .i64 0, .slice none 0 0] 33 (0, 0)) := by rw [hR4]; exact setRow_heap _ _ _ _ _ _ x3
      have hb4 : Below wr.heap.size wr W4 := by rw [hR4]; exact setRow_belowT hb3 (Nat.le_refl _)
      have hra4 : RowApp W4 ao al := by rw [hR4]; exact rowApp_setT hra x3 (noB_of rfl)
      have HW4 := hide hW4; have HX4 := hide x4; have HB4 := hide hb4; have HRA4 := hide hra4
      clear c0 c1 c2 c3 c4 hra k1 x2 x3 hb2 hb3 hW4 hR4 x4 hb4 hra4 NA
      go_upto_region 13 with fail
      rw [← unhide HW4]
      obtain ⟨c0, c1, c2, c3, c4⟩ := unhide HC W4 (unhide HB4)
      clear d1 e1
      go_wp2_with fail
      refine (unhide NF _).mono ?_
      rintro e y2 ⟨v2, rfl, hr2, k2⟩
      obtain ⟨ro, rc, rfl, hfr, hro⟩ := frow_ownT hr2
      have x5 := (k2.block _ (block_ltQ (unhide HX4))).trans (unhide HX4)
      have hb5 := belowTr (unhide HB4) k2
      have d12 : y2.cell? ⟨wr.heap.size, 12, none⟩ = some (.slice none 0 0) := cell_of_row _ _ 12 _ _ _ x5
      have e12 : y2.frozen? ⟨wr.heap.size, 12, none⟩ = false := frozen_of_row _ _ 12 _ _ x5
      obtain ⟨W6, hW6⟩ : ∃ W6, W6 = y2.setCell ⟨wr.heap.size, 12, none⟩ (.slice ro row.length rc) := ⟨_, rfl⟩
      have hR6 : W6 = y2.setRow wr.heap.size #[.string p0, .slice ao al.length ac, .string ⟨#[]⟩, .string ⟨#[]⟩, .string ⟨#[]⟩, .string ⟨#[]⟩, .int .i64 (vx : Int), .int .i64 (vy : Int), .slice none 0 0, .int .i64 0, .int .i64 0, .int .i64 0, .slice ro row.length rc] := by rw [hW6, setCell_eq_setRow y2 wr.heap.size 12 _ _ _ _ x5]; rfl
      have x6 : W6.heap[wr.heap.size]? = some (.cells #[.string p0, .slice ao al.length ac, .string ⟨#[]⟩, .string ⟨#[]⟩, .string ⟨#[]⟩, .string ⟨#[]⟩, .int .i64 (vx : Int), .int .i64 (vy : Int), .slice none 0 0, .int .i64 0, .int .i64 0, .int .i64 0, .slice ro row.length rc] 33 (0, 0)) := by rw [hR6]; exact setRow_heap _ _ _ _ _ _ x5
      have hb6 : Below wr.heap.size wr W6 := by rw [hR6]; exact setRow_belowT hb5 (Nat.le_refl _)
      have hra6 : RowApp W6 ao al := by rw [hR6]; exact rowApp_setT ((unhide HRA4).below k2) x5 (noB_of rfl)
      have hlt4 := block_ltQ (unhide HX4)
      have HRO : Hid (∀ p, ro = some p → wr.heap.size < p.block) := hide (fun p hp => by have := hro p hp; omega)
      have hfr6 : FRow W6 ro row := by rw [hR6]; exact frow_setT hfr (unhide HRO)
      have HW6 := hide hW6; have HX6 := hide x6; have HB6 := hide hb6; have HRA6 := hide hra6; have HFR6 := hide hfr6
      clear c0 c1 c2 c3 c4 hr2 hfr hro k2 x5 hb5 hW6 hR6 x6 hb6 hra6 hlt4 hfr6 NF HX4 HB4 HRA4 HW4
      go_upto_region 14 with fail
      rw [← unhide HW6]
      clear d12 e12
      obtain ⟨c0, c1, c2, c3, c4⟩ := unhide HC W6 (unhide HB6)
      obtain ⟨i1, gi, gz0, gz1, gz2⟩ := info_parts infoWayT
      have GI := hide gi; have Y0 := hide gz0; have Y1 := hide gz1; have Y2 := hide gz2
      obtain ⟨T, hT⟩ : ∃ T, T = wayZ p2 := ⟨_, rfl⟩
      have HT : Hid (T = wayU q2.data.toList) := hide (by rw [hT, unhide HQ2, drop_extract]; unfold wayZ; rw [if_neg (by omega)])
      have HTT := hide hT
      have hq2z : q2.size ≤ 65535 := by
        have := unhide HLEE p2 (by simp)
        rw [unhide HQ2, ByteArray.size_extract]; omega
      have HQZ := hide hq2z
      have hA6 := block_ltQ (unhide HX6)
      have HA6 := hide hA6
      clear gi gz0 gz1 gz2 hT hq2z hA6
      generalize wr = V0 at *
      generalize hA : V0.heap.size = A at *
      have HA := hide hA
      clear hA
      go_wp2
      go_loopw [8] (fun sv wx => ∃ (t : ByteArray) (l : List XWay) (v : Value), sv = .string t ∧ t.size + 3 * l.length ≤ 65535 ∧ T = l ++ wayU t.data.toList ∧ wx.heap[A]? = some (.cells #[.string p0, .slice ao al.length ac, .string ⟨#[]⟩, .string ⟨#[]⟩, .string ⟨#[]⟩, .string ⟨#[]⟩, .int .i64 (vx : Int), .int .i64 (vy : Int), v, .int .i64 0, .int .i64 0, .int .i64 0, .slice ro row.length rc] 33 (0, 0)) ∧ wx.ownsRow W6.heap.size 86 3 v l.length (wayC l) ∧ Ext (fun q => q = A) W6 wx) (fun sv _ => strLen sv)
      case atStart => exact ⟨q2, [], _, rfl, by have := unhide HQZ; simpa using this, unhide HT, unhide HX6, World.ownsRow_nil _ _ _ _, Ext.of_below (Below.refl _ _)⟩
      case round =>
        obtain ⟨t, l, v, rfl, hz, hTl, hx2, ho, hbw⟩ := hrel
        have c8 : wr.cell? ⟨A, 8, none⟩ = some v := cell_of_row _ _ 8 _ _ _ hx2
        have hsz2 : A < wr.heap.size := block_ltQ hx2
        have hA6 := unhide HA6
        obtain ⟨⟨ta, tc, rfl⟩, hne⟩ : (∃ ta tc, v = .slice ta l.length tc) ∧ some A ≠ v.ownBlock := by
          rcases ho.2 with ⟨h1, h2⟩ | ⟨g, cap, cur, h1, hB, _⟩
          · refine ⟨⟨none, 0, by rw [h1, h2]⟩, ?_⟩
            rw [h1]; simp [Value.ownBlock]
          · refine ⟨⟨_, cap, h1⟩, ?_⟩
            rw [h1]; simp [Value.ownBlock]; omega
        by_cases h3 : t.size < 3
        · have h3i : ¬ 3 ≤ (t.size : Int) := by omega
          rw [wayU_short (by rw [Array.length_toList]; exact h3), List.append_nil] at hTl
          have HTT : Hid (l = wayZ p2) := hide (hTl.symm.trans (unhide HTT))
          clear h3 hz hTl
          have k6 := (unhide HK).2.2.2
          obtain ⟨m0, hm0⟩ : ∃ q, q = p3.extract 0 2 := ⟨_, rfl⟩
          obtain ⟨m1, hm1⟩ : ∃ q, q = p3.extract 2 4 := ⟨_, rfl⟩
          obtain ⟨m2, hm2⟩ : ∃ q, q = p3.extract 4 p3.size := ⟨_, rfl⟩
          have s0 : m0.size = 2 := by rw [hm0, ByteArray.size_extract]; omega
          have s1 : m1.size = 2 := by rw [hm1, ByteArray.size_extract]; omega
          have s2 : m2.size = 2 := by rw [hm2, ByteArray.size_extract]; omega
          have v0 := valN_size (s := m0) (k := 2) (by omega) (by decide)
          have v1 := valN_size (s := m1) (k := 2) (by omega) (by decide)
          have v2 := valN_size (s := m2) (k := 2) (by omega) (by decide)
          have M0 := hide (fun W => value_any m0 W (by omega) v0)
          have M1 := hide (fun W => value_any m1 W (by omega) v1)
          have M2 := hide (fun W => value_any m2 W (by omega) v2)
          have E0 : Hid (maskD p3 = (valN m0.data.toList : Int)) := hide (by unfold maskD; rw [if_pos k6, ← hm0]; exact readV_val (by omega) (by omega))
          have E1 : Hid (maskO p3 = (valN m1.data.toList : Int)) := hide (by unfold maskO; rw [if_pos k6, ← hm1]; exact readV_val (by omega) (by omega))
          have E2 : Hid (maskF p3 = (valN m2.data.toList : Int)) := hide (by unfold maskF; rw [if_pos k6, ← hm2]; exact readV_val (by omega) (by omega))
          have u0 : ∀ wx, (Instr.slice 9 (.string p3) none (some (.int .i64 2)) none).run Tryz.prog wx = .ok (.string m0) wx := fun wx => by rw [hm0]; exact run_slice_string_h (P := Tryz.prog) wx 9 p3 Tryz.underlying9 .i64 2 (by omega) (by omega)
          have u1 : ∀ wx, (Instr.slice 9 (.string p3) (some (.int .i64 2)) (some (.int .i64 4)) none).run Tryz.prog wx = .ok (.string m1) wx := fun wx => by rw [hm1]; exact run_slice_string (P := Tryz.prog) wx 9 p3 .i64 .i64 2 4 Tryz.underlying9 (by omega) (by omega) (by omega)
          have u2 : ∀ wx, (Instr.slice 9 (.string p3) (some (.int .i64 4)) none none).run Tryz.prog wx = .ok (.string m2) wx := fun wx => by rw [hm2]; exact run_slice_string_l (P := Tryz.prog) wx 9 p3 Tryz.underlying9 .i64 4 (by omega) (by omega)
          have MB : Hid ((valN m0.data.toList : Int) ≤ 9223372036854775807 ∧ (valN m1.data.toList : Int) ≤ 9223372036854775807 ∧ (valN m2.data.toList : Int) ≤ 9223372036854775807) := hide ⟨by omega, by omega, by omega⟩
          generalize valN m0.data.toList = x0 at *
          generalize valN m1.data.toList = x1 at *
          generalize valN m2.data.toList = x2 at *
          have hbA : Below A V0 wr := (unhide HB6).trans (hbw.below (by omega) (fun q e => by omega))
          obtain ⟨_, _, _, r3, _⟩ := unhide HC wr hbA
          have q9 : wr.cell? ⟨A, 9, none⟩ = some (.int .i64 0) := cell_of_row _ _ 9 _ _ _ hx2
          have q10 : wr.cell? ⟨A, 10, none⟩ = some (.int .i64 0) := cell_of_row _ _ 10 _ _ _ hx2
          have q11 : wr.cell? ⟨A, 11, none⟩ = some (.int .i64 0) := cell_of_row _ _ 11 _ _ _ hx2
          have f9 : wr.frozen? ⟨A, 9, none⟩ = false := frozen_of_row _ _ 9 _ _ hx2
          have f10 : wr.frozen? ⟨A, 10, none⟩ = false := frozen_of_row _ _ 10 _ _ hx2
          have f11 : wr.frozen? ⟨A, 11, none⟩ = false := frozen_of_row _ _ 11 _ _ hx2
          obtain ⟨W9, hW9⟩ : ∃ W9, W9 = wr.drew.setRow A #[.string p0, .slice ao al.length ac, .string ⟨#[]⟩, .string ⟨#[]⟩, .string ⟨#[]⟩, .string ⟨#[]⟩, .int .i64 (vx : Int), .int .i64 (vy : Int), .slice ta l.length tc, .int .i64 (x0 : Int), .int .i64 (x1 : Int), .int .i64 (x2 : Int), .slice ro row.length rc] := ⟨_, rfl⟩
          have hx9 : wr.drew.heap[A]? = some (.cells #[.string p0, .slice ao al.length ac, .string ⟨#[]⟩, .string ⟨#[]⟩, .string ⟨#[]⟩, .string ⟨#[]⟩, .int .i64 (vx : Int), .int .i64 (vy : Int), .slice ta l.length tc, .int .i64 0, .int .i64 0, .int .i64 0, .slice ro row.length rc] 33 (0, 0)) := hx2
          have hAg : A ≠ g := fun e => by omega
          have hR9 : (((wr.setCell ⟨A, 9, none⟩ (.int .i64 (x0 : Int))).setCell ⟨A, 10, none⟩ (.int .i64 (x1 : Int))).setCell ⟨A, 11, none⟩ (.int .i64 (x2 : Int))).drew = W9 := by
            rw [hW9]
            exact setCells_spl A _ _ [.int .i64 (x0 : Int), .int .i64 (x1 : Int), .int .i64 (x2 : Int)] 9 _ _ hx9
          have x9 : W9.heap[A]? = some (.cells #[.string p0, .slice ao al.length ac, .string ⟨#[]⟩, .string ⟨#[]⟩, .string ⟨#[]⟩, .string ⟨#[]⟩, .int .i64 (vx : Int), .int .i64 (vy : Int), .slice ta l.length tc, .int .i64 (x0 : Int), .int .i64 (x1 : Int), .int .i64 (x2 : Int), .slice ro row.length rc] 33 (0, 0)) := by rw [hW9]; exact setRow_heap _ _ _ _ _ _ hx9
          have hwz := wayZ_ok wr p2
          rw [← unhide HTT] at hwz
          have hp2 := unhide HLEE p2 (by simp)
          obtain ⟨ao2, cap2, hv2, hrw⟩ := rowWay_own ho hwz.1 (by unfold maxLen; omega)
          have hv3 : ta = ao2 := by injection hv2
          rw [← hv3] at hrw
          have hxq : W6.heap[A]? = _ := unhide HX6
          have hrap : RowApp wr ao al := rowApp_ext (unhide HRA6) hxq (noB_of rfl) hbw
          have hfrw : FRow wr ro row := frow_ext (unhide HFR6) (unhide HRO) hbw
          have hp0 := unhide HLEE p0 (by simp)
          obtain ⟨mb0, mb1, mb2⟩ := unhide MB
          have hfl0 : FlOK wr.drew ⟨p0, ao, al, ac, ⟨#[]⟩, ⟨#[]⟩, ⟨#[]⟩, ⟨#[]⟩, ⟨vx, vy, ta, l, tc⟩, x0, x1, x2, ro, row, rc⟩ :=
            ⟨by show p0.size ≤ maxLen; unfold maxLen; omega, hrap, hrw, hfrw, (unhide HPF).2, by have := (unhide HPF).1; show (row.length : Int) ≤ _; omega, mb0, mb1, mb2⟩
          obtain ⟨fX, hfX⟩ : ∃ fX : Fl, fX = ⟨p0, ao, al, ac, ⟨#[]⟩, ⟨#[]⟩, ⟨#[]⟩, ⟨#[]⟩, ⟨vx, vy, ta, l, tc⟩, x0, x1, x2, ro, row, rc⟩ := ⟨_, rfl⟩
          have hfl9 : FlOK W9 fX := by rw [hW9, hfX]; exact flOK_setT hfl0 hx9 (noB_of rfl) (unhide HRO)
          have hfst : fX.strip = flP s := by
            rw [hfX, unhide HFP]
            unfold flQ
            rw [unhide hX, unhide hY, unhide E0, unhide E1, unhide E2, ← unhide HTT, unhide HAL, unhide HROW]
            rfl
          have hb9 : Below A V0 W9 := by rw [hW9]; exact setRow_belowT hbA.drew (Nat.le_refl _)
          have nt := rfileText_any fX W9 hfl9
          have HFE : Hid (okP s = decide (fileE fX = 0 ∧ fileS fX = s)) := hide (by unfold okP; rw [← fileE_strip fX, ← fileS_strip fX, hfst])
          have hcX : flC fX = #[.string p0, .slice ao al.length ac, .string ⟨#[]⟩, .string ⟨#[]⟩, .string ⟨#[]⟩, .string ⟨#[]⟩, .int .i64 (vx : Int), .int .i64 (vy : Int), .slice ta l.length tc, .int .i64 (x0 : Int), .int .i64 (x1 : Int), .int .i64 (x2 : Int), .slice ro row.length rc] := by rw [hfX]; rfl
          have HRO9 : Hid (∀ p, fX.ro = some p → w.heap.size < p.block) := hide (fun p hp => by
            have h1 := unhide HRO p (by rw [hfX] at hp; exact hp)
            have h2 := block_ltQ (unhide HX V0 (unhide HBW))
            have h3 := unhide HA
            omega)
          rw [hcX] at nt
          generalize fileE fX = fe at *
          generalize fileS fX = fS at *
          have NT := hide nt; have HX9 := hide x9; have HB9 := hide hb9; have HFL9 := hide hfl9; have HST := hide hfst; have HR9 := hide hR9; have HCX := hide hcX
          clear k6 hm0 hm1 hm2 s0 s1 s2 v0 v1 v2 E0 E1 E2 MB hbA hW9 hx9 hR9 x9 hwz hp2 hv2 hv3 hrw hxq hrap hfrw hp0 mb0 mb1 mb2 hfl0 hfl9 hfst hb9 nt hcX hfX ho hbw hx2 hne c8
          go_upto_region 18 with fail
          go_wp2_with fail
          go_region_held3 (fun W => W.cell? ⟨g, 3, none⟩ = some (.string p3))
            (first | (with_reducible exact r3) | exact r3 | go_keep)
            ((first | (go_at_call_of 64 (Value.string m0); refine (unhide M0 _).mono ?_; rintro e y0 ⟨rfl, hy⟩; subst hy) | (go_at_call_of 64 (Value.string m1); refine (unhide M1 _).mono ?_; rintro e y1 ⟨rfl, hy⟩; subst hy) | (go_at_call_of 64 (Value.string m2); refine (unhide M2 _).mono ?_; rintro e y2 ⟨rfl, hy⟩; subst hy)))
          all_goals
            rw [unhide HR9]
            clear q9 q10 q11 f9 f10 f11 HR9 M0 M1 M2 u0 u1 u2 r3
            go_wp2_with (refine wpList_load_mid rfl _ _ rfl A 0 rfl [.string p0, .slice ao al.length ac, .string ⟨#[]⟩, .string ⟨#[]⟩, .string ⟨#[]⟩, .string ⟨#[]⟩, .int .i64 (vx : Int), .int .i64 (vy : Int), .slice ta l.length tc, .int .i64 (x0 : Int), .int .i64 (x1 : Int), .int .i64 (x2 : Int), .slice ro row.length rc] _ (range_rowT (unhide HX9)) Tryz.underlying33 rfl infoFl ?_)
            refine (unhide NT).mono ?_
            rintro e y19 ⟨rfl, k19⟩
            have x19 := (k19.block _ (block_ltQ (unhide HX9))).trans (unhide HX9)
            have hAe := unhide HA
            have b19 : Below A V0 y19 := (unhide HB9).trans (k19.mono (by have := block_ltQ (unhide HX9); omega))
            have b19w : Below W1.heap.size W1 y19 := (unhide HBW).trans (b19.mono (by rw [← hAe]; exact (unhide HBW).size))
            have xr19 := unhide HX y19 b19w
            have hfin : FlOK (y19.setRow w.heap.size #[.string p0, .slice ao al.length ac, .string ⟨#[]⟩, .string ⟨#[]⟩, .string ⟨#[]⟩, .string ⟨#[]⟩, .int .i64 (vx : Int), .int .i64 (vy : Int), .slice ta l.length tc, .int .i64 (x0 : Int), .int .i64 (x1 : Int), .int .i64 (x2 : Int), .slice ro row.length rc]) fX := flOK_setT ((unhide HFL9).below k19) xr19 (noB_of rfl) (unhide HRO9)
            have HX19 := hide x19; have HXR := hide xr19; have HFIN := hide hfin
            have HBF := hide (setRow_belowT (cs := #[.string p0, .slice ao al.length ac, .string ⟨#[]⟩, .string ⟨#[]⟩, .string ⟨#[]⟩, .string ⟨#[]⟩, .int .i64 (vx : Int), .int .i64 (vy : Int), .slice ta l.length tc, .int .i64 (x0 : Int), .int .i64 (x1 : Int), .int .i64 (x2 : Int), .slice ro row.length rc]) ((unhide HB1).trans (b19w.mono (unhide HB1).size)) (Nat.le_refl w.heap.size))
            clear k19 x19 hAe b19 b19w xr19 hfin NT HX9 HFL9
            by_cases h1 : fe = 0
            case neg =>
              have t1 : (fe == 0) = false := by simpa using h1
              have HOK : Hid (okP s = false) := hide (by rw [unhide HFE]; apply decide_eq_false; exact fun h => h1 h.1)
              clear h1
              go_wp2_with (first
                | refine wpList_load_mid rfl _ _ rfl A 0 rfl [.string p0, .slice ao al.length ac, .string ⟨#[]⟩, .string ⟨#[]⟩, .string ⟨#[]⟩, .string ⟨#[]⟩, .int .i64 (vx : Int), .int .i64 (vy : Int), .slice ta l.length tc, .int .i64 (x0 : Int), .int .i64 (x1 : Int), .int .i64 (x2 : Int), .slice ro row.length rc] _ (range_rowT (unhide HX19)) Tryz.underlying33 rfl infoFl ?_
                | refine wpList_store_row rfl _ _ _ rfl w.heap.size #[.string p0, .slice ao al.length ac, .string ⟨#[]⟩, .string ⟨#[]⟩, .string ⟨#[]⟩, .string ⟨#[]⟩, .int .i64 (vx : Int), .int .i64 (vy : Int), .slice ta l.length tc, .int .i64 (x0 : Int), .int .i64 (x1 : Int), .int .i64 (x2 : Int), .slice ro row.length rc] rfl rfl _ _ (unhide HXR) infoFl rfl (by simp [Value.oneCell']) ?_)
              refine bodyPost_ret (v := .tuple #[.agg #[.string p0, .slice ao al.length ac, .string ⟨#[]⟩, .string ⟨#[]⟩, .string ⟨#[]⟩, .string ⟨#[]⟩, .int .i64 (vx : Int), .int .i64 (vy : Int), .slice ta l.length tc, .int .i64 (x0 : Int), .int .i64 (x1 : Int), .int .i64 (x2 : Int), .slice ro row.length rc], .bool false]) (results_cell_tmpT rfl _ _ w.heap.size 33 #[.string p0, .slice ao al.length ac, .string ⟨#[]⟩, .string ⟨#[]⟩, .string ⟨#[]⟩, .string ⟨#[]⟩, .int .i64 (vx : Int), .int .i64 (vy : Int), .slice ta l.length tc, .int .i64 (x0 : Int), .int .i64 (x1 : Int), .int .i64 (x2 : Int), .slice ro row.length rc] (0, 0) _ _ rfl rfl (setRow_heap _ _ _ _ _ _ (unhide HXR)) Tryz.underlying33 rfl infoFl) rfl ⟨⟨fX, by rw [unhide HCX, unhide HOK], unhide HFIN, unhide HST, unhide HRO9⟩, unhide HBF⟩
            have t1 : (fe == 0) = true := by simpa using h1
            by_cases h2 : fS = s
            case neg =>
              have t2 : (fS.toList == s.toList) = false := toList_neQ h2
              have HOK : Hid (okP s = false) := hide (by rw [unhide HFE]; apply decide_eq_false; exact fun h => h2 h.2)
              clear h1 h2
              go_wp2_with (first
                | refine wpList_load_mid rfl _ _ rfl A 0 rfl [.string p0, .slice ao al.length ac, .string ⟨#[]⟩, .string ⟨#[]⟩, .string ⟨#[]⟩, .string ⟨#[]⟩, .int .i64 (vx : Int), .int .i64 (vy : Int), .slice ta l.length tc, .int .i64 (x0 : Int), .int .i64 (x1 : Int), .int .i64 (x2 : Int), .slice ro row.length rc] _ (range_rowT (unhide HX19)) Tryz.underlying33 rfl infoFl ?_
                | refine wpList_store_row rfl _ _ _ rfl w.heap.size #[.string p0, .slice ao al.length ac, .string ⟨#[]⟩, .string ⟨#[]⟩, .string ⟨#[]⟩, .string ⟨#[]⟩, .int .i64 (vx : Int), .int .i64 (vy : Int), .slice ta l.length tc, .int .i64 (x0 : Int), .int .i64 (x1 : Int), .int .i64 (x2 : Int), .slice ro row.length rc] rfl rfl _ _ (unhide HXR) infoFl rfl (by simp [Value.oneCell']) ?_)
              refine bodyPost_ret (v := .tuple #[.agg #[.string p0, .slice ao al.length ac, .string ⟨#[]⟩, .string ⟨#[]⟩, .string ⟨#[]⟩, .string ⟨#[]⟩, .int .i64 (vx : Int), .int .i64 (vy : Int), .slice ta l.length tc, .int .i64 (x0 : Int), .int .i64 (x1 : Int), .int .i64 (x2 : Int), .slice ro row.length rc], .bool false]) (results_cell_tmpT rfl _ _ w.heap.size 33 #[.string p0, .slice ao al.length ac, .string ⟨#[]⟩, .string ⟨#[]⟩, .string ⟨#[]⟩, .string ⟨#[]⟩, .int .i64 (vx : Int), .int .i64 (vy : Int), .slice ta l.length tc, .int .i64 (x0 : Int), .int .i64 (x1 : Int), .int .i64 (x2 : Int), .slice ro row.length rc] (0, 0) _ _ rfl rfl (setRow_heap _ _ _ _ _ _ (unhide HXR)) Tryz.underlying33 rfl infoFl) rfl ⟨⟨fX, by rw [unhide HCX, unhide HOK], unhide HFIN, unhide HST, unhide HRO9⟩, unhide HBF⟩
            have t2 : (fS.toList == s.toList) = true := by rw [h2]; simp
            have HOK : Hid (okP s = true) := hide (by rw [unhide HFE]; apply decide_eq_true; exact ⟨h1, h2⟩)
            clear h1 h2
            go_wp2_with (first
              | refine wpList_load_mid rfl _ _ rfl A 0 rfl [.string p0, .slice ao al.length ac, .string ⟨#[]⟩, .string ⟨#[]⟩, .string ⟨#[]⟩, .string ⟨#[]⟩, .int .i64 (vx : Int), .int .i64 (vy : Int), .slice ta l.length tc, .int .i64 (x0 : Int), .int .i64 (x1 : Int), .int .i64 (x2 : Int), .slice ro row.length rc] _ (range_rowT (unhide HX19)) Tryz.underlying33 rfl infoFl ?_
              | refine wpList_store_row rfl _ _ _ rfl w.heap.size #[.string p0, .slice ao al.length ac, .string ⟨#[]⟩, .string ⟨#[]⟩, .string ⟨#[]⟩, .string ⟨#[]⟩, .int .i64 (vx : Int), .int .i64 (vy : Int), .slice ta l.length tc, .int .i64 (x0 : Int), .int .i64 (x1 : Int), .int .i64 (x2 : Int), .slice ro row.length rc] rfl rfl _ _ (unhide HXR) infoFl rfl (by simp [Value.oneCell']) ?_)
            refine bodyPost_ret (v := .tuple #[.agg #[.string p0, .slice ao al.length ac, .string ⟨#[]⟩, .string ⟨#[]⟩, .string ⟨#[]⟩, .string ⟨#[]⟩, .int .i64 (vx : Int), .int .i64 (vy : Int), .slice ta l.length tc, .int .i64 (x0 : Int), .int .i64 (x1 : Int), .int .i64 (x2 : Int), .slice ro row.length rc], .bool true]) (results_cell_tmpT rfl _ _ w.heap.size 33 #[.string p0, .slice ao al.length ac, .string ⟨#[]⟩, .string ⟨#[]⟩, .string ⟨#[]⟩, .string ⟨#[]⟩, .int .i64 (vx : Int), .int .i64 (vy : Int), .slice ta l.length tc, .int .i64 (x0 : Int), .int .i64 (x1 : Int), .int .i64 (x2 : Int), .slice ro row.length rc] (0, 0) _ _ rfl rfl (setRow_heap _ _ _ _ _ _ (unhide HXR)) Tryz.underlying33 rfl infoFl) rfl ⟨⟨fX, by rw [unhide HCX, unhide HOK], unhide HFIN, unhide HST, unhide HRO9⟩, unhide HBF⟩
        · obtain ⟨a, b, c, r, hl⟩ : ∃ a b c r, t.data.toList = a :: b :: c :: r := by
            have h5 : 3 ≤ t.data.toList.length := by rw [Array.length_toList]; show 3 ≤ t.size; omega
            match hq : t.data.toList, h5 with
            | a :: b :: c :: r, _ => exact ⟨a, b, c, r, rfl⟩
          have h3i : 3 ≤ (t.size : Int) := by omega
          have b0 : ∀ wx, (Instr.index 9 (.string t) (.int .i64 0)).run Tryz.prog wx = .ok (.int .u8 a.toNat) wx := fun wx => byte_run t 0 a (by rw [hl]; rfl) wx
          have b1 : ∀ wx, (Instr.index 9 (.string t) (.int .i64 1)).run Tryz.prog wx = .ok (.int .u8 b.toNat) wx := fun wx => byte_run t 1 b (by rw [hl]; rfl) wx
          have b2 : ∀ wx, (Instr.index 9 (.string t) (.int .i64 2)).run Tryz.prog wx = .ok (.int .u8 c.toNat) wx := fun wx => byte_run t 2 c (by rw [hl]; rfl) wx
          have hsl : ∀ wx, (Instr.slice 9 (.string t) (some (.int .i64 3)) none none).run Tryz.prog wx = .ok (.string (t.extract 3 t.size)) wx := fun wx => run_slice_string_l (P := Tryz.prog) wx 9 t Tryz.underlying9 .i64 3 (by omega) (by omega)
          have hex : (t.extract 3 t.size).data.toList = r := by rw [drop_extract, hl]; rfl
          have hes : (t.extract 3 t.size).size = t.size - 3 := by rw [ByteArray.size_extract]; omega
          have ha := a.toNat_lt; have hb' := b.toNat_lt; have hc := c.toNat_lt
          have hT2 : T = l ++ [⟨(a.toNat : Int), (b.toNat : Int), ((c.toNat : Int) == 1)⟩] ++ wayU (t.extract 3 t.size).data.toList := by
            rw [hTl, hl, hex]
            simp [wayU]
          have hz2 : (t.extract 3 t.size).size + 3 * (l ++ [(⟨(a.toNat : Int), (b.toNat : Int), ((c.toNat : Int) == 1)⟩ : XWay)]).length ≤ 65535 := by rw [hes, List.length_append, List.length_singleton]; omega
          have hms : (t.extract 3 t.size).size < t.size := by omega
          have hll : l.length ≤ 30000 := by omega
          generalize t.extract 3 t.size = t2 at *
          obtain ⟨an, han⟩ : ∃ an : Int, an = (a.toNat : Int) := ⟨_, rfl⟩
          obtain ⟨bn, hbn⟩ : ∃ bn : Int, bn = (b.toNat : Int) := ⟨_, rfl⟩
          obtain ⟨cn, hcn⟩ : ∃ cn : Int, cn = (c.toNat : Int) := ⟨_, rfl⟩
          rw [← han] at b0 hT2 hz2
          rw [← hbn] at b1 hT2 hz2
          rw [← hcn] at b2 hT2 hz2
          have han2 : 0 ≤ an ∧ an ≤ 255 := by omega
          have hbn2 : 0 ≤ bn ∧ bn ≤ 255 := by omega
          have w1 : IntKind.i64.wrap an = an := by rw [IntKind.wrap_i64]; omega
          have w2 : IntKind.i64.wrap bn = bn := by rw [IntKind.wrap_i64]; omega
          have h6w := hbw.low.size
          have HO := hide ho; have HB := hide hbw; have HX2' := hide hx2; have HNE := hide hne; have HT2 := hide hT2; have HZ2 := hide hz2; have HMS := hide hms; have HLL := hide hll
          clear ho hbw hx2 hne hT2 hz2 hms hll hTl hl hex hes ha hb' hc han hbn hcn hz h3
          have HNB : Hid (((wr.alloc (.cells #[.int .i64 an, .int .i64 bn, .bool (cn == 1)] 86)).drew).heap[wr.heap.size]? = some (.cells #[.int .i64 an, .int .i64 bn, .bool (cn == 1)] 86)) := hide (heap_alloc_new wr _)
          go_upto_region 17 with fail
          go_wp2_with fail
          go_region_law ((refine step_append_lies _ (by rfl) _ _ _ (by rfl) W6.heap.size 86 i1 _ 3 24 Tryz.underlying26 (unhide GI) (unhide Y0) (unhide Y1) (unhide Y2) rfl (by omega) _ _ _ (by rfl) ((unhide HO).alloc _).drew ⟨wr.heap.size, 0, none⟩ 1 1 [.int .i64 an, .int .i64 bn, .bool (cn == 1)] (by rfl) (by rfl) (World.news_of_block (unhide HNB)) (by simp [Value.oneCell']) (by omega) (by have := unhide HLL; unfold maxLen; omega) (by have := unhide HLL; omega) (by simp; omega) (wr.heap.size + 1) (by simp) ?_; intro g3 cap3 w3 own3 hgrow hat3 hlt3; have k2 := (hgrow.block _ (by simp; omega) (unhide HNE)).trans ((Below.heap_alloc wr _ _ hsz2).trans (unhide HX2')); have q8 : w3.cell? ⟨A, 8, none⟩ = some (.slice ta l.length tc) := cell_of_row _ _ 8 _ _ _ k2; have qf : w3.frozen? ⟨A, 8, none⟩ = false := frozen_of_row _ _ 8 _ _ k2))
          all_goals
            have hR := setCell_eq_setRow w3 A 8 _ _ _ (.slice (some ⟨g3, 0, none⟩) (l.length + 1) cap3) k2
            have k2' : (w3.setCell ⟨A, 8, none⟩ (.slice (some ⟨g3, 0, none⟩) (l.length + 1) cap3)).heap[A]? = some (.cells #[.string p0, .slice ao al.length ac, .string ⟨#[]⟩, .string ⟨#[]⟩, .string ⟨#[]⟩, .string ⟨#[]⟩, .int .i64 (vx : Int), .int .i64 (vy : Int), .slice (some ⟨g3, 0, none⟩) (l.length + 1) cap3, .int .i64 0, .int .i64 0, .int .i64 0, .slice ro row.length rc] 33 (0, 0)) := by rw [hR, setRow_heap _ _ _ _ _ _ k2]; rfl
            have hE3 : Ext (fun q => q = A) W6 (w3.setCell ⟨A, 8, none⟩ (.slice (some ⟨g3, 0, none⟩) (l.length + 1) cap3)) := by
              refine Ext.set (A := fun q => q = A) (g := A) ⟨?_, fun q hq hA => ?_⟩ rfl _
              · exact (((unhide HB).low.alloc (Nat.zero_le _) _).drew).grown hgrow (by simp) (fun q hq => by omega)
              · have hne2 : some q ≠ (Value.slice ta l.length tc).ownBlock := fun e => by have := ((unhide HO).lt q e.symm).1; omega
                exact (hgrow.block q (by simp; omega) hne2).trans ((Below.heap_alloc wr _ _ (by omega)).trans ((unhide HB).keep q hq hA))
            have ho3 : (w3.setCell ⟨A, 8, none⟩ (.slice (some ⟨g3, 0, none⟩) (l.length + 1) cap3)).ownsRow W6.heap.size 86 3 (.slice (some ⟨g3, 0, none⟩) (l.length + 1) cap3) (l ++ [(⟨an, bn, (cn == 1)⟩ : XWay)]).length (wayC (l ++ [(⟨an, bn, (cn == 1)⟩ : XWay)])) := by
              rw [wayC_snoc, List.length_append]
              exact owns_setQ own3 hA6
            have HE3 := hide hE3; have HK2 := hide k2'; have HO3 := hide ho3
            clear hE3 k2' ho3 k2 q8 qf own3 hgrow hat3 hlt3 hR
            go_wp2
            go_roundw
            case rel => exact ⟨t2, _, _, rfl, unhide HZ2, unhide HT2, unhide HK2, unhide HO3, unhide HE3⟩
            case measure => exact unhide HMS
    · have hne : t ≠ ⟨#[]⟩ := fun e => h0 (by rw [e]; rfl)
      have hE : t.toList.isEmpty = false := by
        cases ht : t.toList with
        | nil => exact absurd (toList_injQ (ht.trans (by simp : ([] : List UInt8) = (⟨#[]⟩ : ByteArray).toList))) hne
        | cons _ _ => rfl
      by_cases h4 : t.size < 4
      · exfalso
        rw [cutG_none h0 (.inl h4)] at hTl
        have := unhide HH
        rw [hTl] at this
        cases this
      · have h4i : ¬ (t.size : Int) < 4 := by omega
        have h4j : 4 ≤ (t.size : Int) := by omega
        have hw4 : wrap64 ((t.size : Int) - 4) = (t.size : Int) - 4 := by first | (unfold wrap64; omega) | (simp [wrap64]; omega) | (simp [wrap64, IntKind.wrap, IntKind.bits, IntKind.signed]; omega)
        obtain ⟨p, hp⟩ : ∃ p, p = t.extract 0 4 := ⟨_, rfl⟩
        obtain ⟨r, hr⟩ : ∃ r, r = t.extract 4 t.size := ⟨_, rfl⟩
        have hps : p.size = 4 := by rw [hp, ByteArray.size_extract]; omega
        have hrs : r.size = t.size - 4 := by rw [hr, ByteArray.size_extract]; omega
        have hvp := valN_size (s := p) (k := 4) (by omega) (by decide)
        have N1 := hide (fun W => value_any p W (by omega) hvp)
        obtain ⟨m, hm⟩ : ∃ m, m = valN p.data.toList := ⟨_, rfl⟩
        rw [← hm] at N1 hvp
        have hrm : readV p = (m : Int) := by rw [readV_val (by omega) (by omega), hm]
        have hslA : ∀ wx, (Instr.slice 9 (.string t) none (some (.int .i64 4)) none).run Tryz.prog wx = .ok (.string p) wx := fun wx => by rw [hp]; exact run_slice_string_h (P := Tryz.prog) wx 9 t Tryz.underlying9 .i64 4 (by omega) (by omega)
        have hmb : (m : Int) ≤ 9223372036854775807 := by omega
        by_cases hn : (r.size : Int) < (m : Int)
        · exfalso
          rw [cutG_none h0 (.inr (by rw [← hp, ← hr, hrm]; exact hn))] at hTl
          have := unhide HH
          rw [hTl] at this
          cases this
        · obtain ⟨x, hx2⟩ : ∃ x, x = r.extract 0 m := ⟨_, rfl⟩
          obtain ⟨r2, hr2⟩ : ∃ r2, r2 = r.extract m r.size := ⟨_, rfl⟩
          have hr2s : r2.size = r.size - m := by rw [hr2, ByteArray.size_extract]; omega
          have hcut : cutG (k + 1) t = (cutG k r2).map (x :: ·) := by
            rw [cutG_some h0 h4 (by rw [← hp, ← hr, hrm]; exact hn), ← hp, ← hr, hrm, hx2, hr2]
            rfl
          have hn' : ¬ (t.size : Int) - 4 < (m : Int) := by omega
          have hslC : ∀ wx, (Instr.slice 9 (.string t) (some (.int .i64 4)) (some (.int .i64 (4 + (m : Int)))) none).run Tryz.prog wx = .ok (.string x) wx := fun wx => by rw [hx2, hr]; exact slice_mid t m (by omega) wx
          have hslD : ∀ wx, (Instr.slice 9 (.string t) (some (.int .i64 (4 + (m : Int)))) none none).run Tryz.prog wx = .ok (.string r2) wx := fun wx => by rw [hr2, hr]; exact slice_end t m (by omega) wx
          have hTl2 : C = (cutG (65536 - (l ++ [x]).length) r2).map ((l ++ [x]) ++ ·) := by
            rw [hTl, hcut, List.length_append, List.length_singleton, show 65536 - (l.length + 1) = k by omega, Option.map_map]
            congr 1
            funext y
            simp
          have hz2 : r2.size + 4 * (l ++ [x]).length ≤ 65535 := by rw [List.length_append, List.length_singleton]; omega
          have hll : l.length ≤ 20000 := by omega
          have hms : r2.size < t.size := by omega
          have hm4 : (4 : Int) + (m : Int) ≤ 70000 := by omega
          have HT2 := hide hTl2; have HZ2 := hide hz2; have HLL := hide hll; have HMS := hide hms; have HO := hide ho; have HB := hide hbw
          clear ho hbw hTl hz hk hp hr hps hrs hm hvp hrm h0 h4 hx2 hr2 hr2s hcut hTl2 hz2 hll hms hx hn
          go_wp2_with fail
          refine (unhide N1 _).mono ?_
          rintro e w1 ⟨rfl, hw⟩
          have hw' := hw.symm
          subst hw'
          clear hw
          go_wp2_with fail
          refine (unhide N1 _).mono ?_
          rintro e w1 ⟨rfl, hw⟩
          have hw' := hw.symm
          subst hw'
          clear hw
          go_wp2_with (at_builtin; refine wpList_append_own _ rfl _ _ 83 rfl W1.heap.size 9 i0 (.string ⟨#[]⟩) 1 16 Tryz.underlying83 (unhide HI) (unhide Z0) (unhide Z1) (unhide Z2) rfl (by decide) _ _ _ rfl ((unhide HO).alloc _) ⟨wr.heap.size, 0, none⟩ 1 1 [.string x] rfl rfl (World.news_of_block (heap_alloc_new _ _)) ?c2 ?c3 ?c4 ?c5 ?_)
          try (case c2 => intro u hu; simp at hu; subst hu; rfl)
          try (case c3 => have := unhide HLL; unfold maxLen; omega)
          try (case c4 => have := unhide HLL; omega)
          try (case c5 => have := (unhide HB).size; simp; omega)
          intro v5 w5 hown5 hgrow5 _
          have ho5 : w5.ownsRow W1.heap.size 9 1 v5 (l ++ [x]).length (rowT (l ++ [x])) := by rw [rowT_snoc, List.length_append]; exact hown5
          have hb5 : Below W1.heap.size W1 w5 := ((unhide HB).alloc (unhide HB).size (.cells #[.string x] 9)).grown hgrow5 (by have := (unhide HB).size; simp; omega) (fun j hj => ((unhide HO).lt j hj).1)
          have HO5 := hide ho5; have HB5 := hide hb5
          clear ho5 hb5 hown5 hgrow5
          go_wp2
          go_roundw
          case rel => exact ⟨r2, l ++ [x], rfl, unhide HZ2, unhide HT2, unhide HO5, unhide HB5⟩
          case measure => exact unhide HMS
end Go.Proofs.YtfpglpefofcdeaaGreatDoor
