/- A file's text, by the document's own. -/
import Derived.Test.YtfpglpefofcdeaaGreatDoorM11
import Derived.Test.YtfpglpefofcdeaaGreatDoorM31
import Derived.Test.YtfpglpefofcdeaaGreatDoorM32
import Derived.Test.YtfpglpefofcdeaaGreatDoorM33
import Derived.Test.YtfpglpefofcdeaaGreatDoorM22
import Derived.Test.YtfpglpefofcdeaaGreatDoorM25
import Derived.Deep.RegionHeld3
namespace Go.Proofs.YtfpglpefofcdeaaGreatDoor
open Go.RowKit
set_option linter.unusedVariables false
set_option linter.unusedSimpArgs false
set_option maxRecDepth 100000

theorem digits_id (s : ByteArray) : digitsB s 8 19 = idB s := by
  unfold digitsB idB inB inT
  rw [digB_all, Bool.and_comm]
theorem low_same {z : Int} (h : 0 ≤ z ∧ z ≤ 255) : lowByte z = z := by unfold lowByte; omega
theorem bytes3T (a b c : Int) (ha : 0 ≤ a ∧ a ≤ 255) (hb : 0 ≤ b ∧ b ≤ 255) (hc : 0 ≤ c ∧ c ≤ 255) (g cap : Nat) (t : TypeId) (w : World) (h : w.heap[g]? = some (.cells #[.int .i64 a, .int .i64 b, .int .i64 c] t (0, 0))) :
    Calls Tryz.prog 19 #[.slice (some ⟨g, 0, none⟩) 3 cap] w fun e w' => e = .returned (.string (strOfNums [a, b, c])) ∧ Below w.heap.size w w' := by
  have := bytes_any [a, b, c] g 0 3 cap w rfl (by omega) (block_ltQ h) (fun i hi => by
    have : i = 0 ∨ i = 1 ∨ i = 2 := by omega
    rcases this with rfl | rfl | rfl <;> (rw [cell_of_row _ _ _ _ _ _ h]; rfl))
  rw [show [a, b, c].map lowByte = [a, b, c] by simp [low_same ha, low_same hb, low_same hc]] at this
  exact this
theorem blk2T (w : World) (o1 o2 : Obj) : ((w.alloc o1).alloc o2).heap[w.heap.size + 1]? = some o2 := by
  have := heap_alloc_new (w.alloc o1) o2
  simpa using this
set_option maxHeartbeats 400000 in
theorem rmask_any (n : Int) (w : World) : Calls Tryz.prog 42 #[.int .i64 n] w fun e w' => e = .returned (.bool (maskB n)) ∧ w' = w := by
  have hB : maskB n = (decide (0 ≤ n) && decide (n < 4096)) := by unfold maskB inT; rw [← Bool.decide_and]; apply decide_eq_decide.2; omega
  rw [hB]
  by_cases h0 : 0 ≤ n
  · by_cases h1 : n < 4096
    · have e0 : decide (0 ≤ n) = true := decide_eq_true h0
      have e1 : decide (n < 4096) = true := decide_eq_true h1
      rw [e0, e1]
      go_enter Tryz.func42, Tryz.ntmps42
      go_wp2
      go_ret
      exact ⟨rfl, rfl⟩
    · have e0 : decide (0 ≤ n) = true := decide_eq_true h0
      have e1 : decide (n < 4096) = false := decide_eq_false h1
      rw [e0, e1]
      go_enter Tryz.func42, Tryz.ntmps42
      go_wp2
      go_ret
      exact ⟨rfl, rfl⟩
  · have e0 : decide (0 ≤ n) = false := decide_eq_false h0
    rw [e0]
    go_enter Tryz.func42, Tryz.ntmps42
    go_wp2
    go_ret
    exact ⟨rfl, rfl⟩
set_option maxHeartbeats 4000000 in
theorem rfileText_any (f : Fl) (w : World) (hf : FlOK w f) : Calls Tryz.prog 10 #[.agg (flC f)] w fun e w' => e = .returned (.tuple #[.string (fileS f), .int .i64 (fileE f)]) ∧ Below w.heap.size w w' := by
  obtain ⟨W1, hW1⟩ : ∃ W1, W1 = w.alloc (.cells (flC f) 33) := ⟨_, rfl⟩
  have hB1 : Below w.heap.size w W1 := by rw [hW1]; exact (Below.refl _ _).alloc (Nat.le_refl _) _
  have hX1 : W1.heap[w.heap.size]? = some (.cells (flC f) 33) := by rw [hW1]; exact heap_alloc_new _ _
  have hf1 := hf.below hB1
  have hC : ∀ wx, Below W1.heap.size W1 wx → wx.cell? ⟨w.heap.size, 0, none⟩ = some (.string f.id) ∧ wx.cell? ⟨w.heap.size, 1, none⟩ = some (.slice f.apo f.apps.length f.apc) ∧ wx.cell? ⟨w.heap.size, 6, none⟩ = some (.int .i64 f.ways.x) ∧ wx.cell? ⟨w.heap.size, 7, none⟩ = some (.int .i64 f.ways.y) ∧ wx.cell? ⟨w.heap.size, 8, none⟩ = some (.slice f.ways.listo f.ways.list.length f.ways.listc) ∧ wx.cell? ⟨w.heap.size, 9, none⟩ = some (.int .i64 f.md) ∧ wx.cell? ⟨w.heap.size, 10, none⟩ = some (.int .i64 f.mo) ∧ wx.cell? ⟨w.heap.size, 11, none⟩ = some (.int .i64 f.mf) ∧ wx.cell? ⟨w.heap.size, 12, none⟩ = some (.slice f.ro f.row.length f.rc) := fun wx hb => by
    have x1 := (hb.block _ (Array.getElem?_eq_some_iff.1 hX1).1).trans hX1
    unfold flC at x1
    refine ⟨?_, ?_, ?_, ?_, ?_, ?_, ?_, ?_, ?_⟩ <;> simp [World.cell?, x1]
  have ni := fun W => rdigits_any f.id 8 19 hf.idz W
  rw [digits_id] at ni
  have NI := hide ni
  have NA := hide (fun (W : World) (hb : Below W1.heap.size W1 W) => appsText_any f.apps f.apo f.apc W (hf1.apps.below hb))
  have NW := hide (fun (W : World) (hb : Below W1.heap.size W1 W) => rways_any f.ways W (hf1.ways.below hb))
  have NF := hide (fun (W : World) (hb : Below W1.heap.size W1 W) => rprintF_all f.row f.ro f.rc W (hf1.row.below hb) hf.nums hf.len)
  have HRW := hide hf1.ways
  obtain ⟨E, hE⟩ : ∃ E, E = fileE f := ⟨_, rfl⟩
  obtain ⟨S, hS⟩ : ∃ S, S = fileS f := ⟨_, rfl⟩
  have HE := hide hE; have HS := hide hS; have HC := hide hC; have HB1 := hide hB1; have HW1 := hide hW1
  obtain ⟨c0, c1, c6, c7, c8, c9, c10, c11, c12⟩ := hC W1 (Below.refl _ _)
  unfold valWays at NW
  rw [← hE, ← hS]
  unfold flC
  unfold flC at HW1
  clear hf hf1 hX1 hB1 hC hE hS hW1 ni
  go_enter Tryz.func10, Tryz.ntmps10
  go_upto_region 1 with fail
  rw [← unhide HW1]
  go_wp2_with fail
  refine (unhide NI _).mono ?_
  rintro e y1 ⟨rfl, hy1⟩
  have k1 : Below W1.heap.size W1 y1 := by rw [hy1]; exact Below.refl _ _
  clear hy1
  have HK1 := hide k1
  clear c0 c1 c6 c7 c8 c9 c10 c11 c12
  obtain ⟨c0, c1, c6, c7, c8, c9, c10, c11, c12⟩ := unhide HC y1 k1
  clear k1
  cases hid : idB f.id with
  | false =>
    have HQ := hide (And.intro ((unhide HE).trans (fileE_id hid)) ((unhide HS).trans (by unfold fileS; rw [fileE_id hid, if_neg (by decide)])))
    have HBZ := hide ((unhide HB1).trans ((unhide HK1).mono (unhide HB1).size))
    clear hid
    go_wp2
    go_ret2
    exact ⟨retPT (unhide HQ).2.symm (unhide HQ).1.symm, unhide HBZ⟩
  | true =>
  have HID := hide hid
  clear hid
  go_wp2_with fail
  refine (unhide NA _ (unhide HK1)).mono ?_
  rintro e y2 ⟨rfl, k2⟩
  have k2' := (unhide HK1).trans (k2.mono (unhide HK1).size)
  have HK2 := hide k2'
  clear c0 c1 c6 c7 c8 c9 c10 c11 c12
  obtain ⟨c0, c1, c6, c7, c8, c9, c10, c11, c12⟩ := unhide HC y2 k2'
  clear k2 k2'
  by_cases ha : appsE f.apps = 0
  case neg =>
    have hE1 : fileE f = appsE f.apps := by unfold fileE; rw [if_neg (by rw [unhide HID]; decide), if_pos ha]
    have HQ := hide (And.intro ((unhide HE).trans hE1) ((unhide HS).trans (by unfold fileS; rw [hE1, if_neg ha])))
    have HBZ := hide ((unhide HB1).trans ((unhide HK2).mono (unhide HB1).size))
    have hab : (appsE f.apps == 0) = false := by simpa using ha
    have hab' : (appsE f.apps != 0) = true := by simpa using ha
    generalize appsE f.apps = ae at *
    clear ha hE1
    go_wp2
    go_ret2
    exact ⟨retPT (unhide HQ).2.symm (unhide HQ).1.symm, unhide HBZ⟩
  have HA := hide ha
  rw [ha]
  clear ha
  go_wp2_with fail
  refine (unhide NW _ (unhide HK2)).mono ?_
  rintro e y3 ⟨rfl, k3⟩
  have k3' := (unhide HK2).trans (k3.mono (unhide HK2).size)
  have HK3 := hide k3'
  clear c0 c1 c6 c7 c8 c9 c10 c11 c12
  obtain ⟨c0, c1, c6, c7, c8, c9, c10, c11, c12⟩ := unhide HC y3 k3'
  clear k3 k3'
  by_cases hw : waysE f.ways = 0
  case neg =>
    have hE1 : fileE f = waysE f.ways := by unfold fileE; rw [if_neg (by rw [unhide HID]; decide), if_neg (by rw [unhide HA]; decide), if_pos hw]
    have HQ := hide (And.intro ((unhide HE).trans hE1) ((unhide HS).trans (by unfold fileS; rw [hE1, if_neg hw])))
    have HBZ := hide ((unhide HB1).trans ((unhide HK3).mono (unhide HB1).size))
    have hab : (waysE f.ways == 0) = false := by simpa using hw
    have hab' : (waysE f.ways != 0) = true := by simpa using hw
    generalize waysE f.ways = ae at *
    clear hw hE1
    go_wp2
    go_ret2
    exact ⟨retPT (unhide HQ).2.symm (unhide HQ).1.symm, unhide HBZ⟩
  have HWY := hide hw
  rw [hw]
  clear hw
  go_wp2_with fail
  refine (unhide NF _ (unhide HK3)).mono ?_
  rintro e y4 ⟨rfl, k4⟩
  have k4' := (unhide HK3).trans (k4.mono (unhide HK3).size)
  have HK4 := hide k4'
  clear c0 c1 c6 c7 c8 c9 c10 c11 c12
  obtain ⟨c0, c1, c6, c7, c8, c9, c10, c11, c12⟩ := unhide HC y4 k4'
  clear k4 k4'
  by_cases hr : fieldsE f.row = 0
  case neg =>
    have hE1 : fileE f = fieldsE f.row := by unfold fileE; rw [if_neg (by rw [unhide HID]; decide), if_neg (by rw [unhide HA]; decide), if_neg (by rw [unhide HWY]; decide), if_pos hr]
    have HQ := hide (And.intro ((unhide HE).trans hE1) ((unhide HS).trans (by unfold fileS; rw [hE1, if_neg hr])))
    have HBZ := hide ((unhide HB1).trans ((unhide HK4).mono (unhide HB1).size))
    have hab : (fieldsE f.row == 0) = false := by simpa using hr
    have hab' : (fieldsE f.row != 0) = true := by simpa using hr
    generalize fieldsE f.row = ae at *
    clear hr hE1
    go_wp2
    go_ret2
    exact ⟨retPT (unhide HQ).2.symm (unhide HQ).1.symm, unhide HBZ⟩
  have HFR := hide hr
  rw [hr]
  clear hr NI NA NW NF
  obtain ⟨hwn, ⟨⟨hx0, hx1⟩, ⟨hy0, hy1⟩⟩, _⟩ := waysE_zero (unhide HWY)
  have hin := ways_in (unhide HWY)
  obtain ⟨nx, hnx⟩ := Int.eq_ofNat_of_zero_le hx0
  obtain ⟨ny, hny⟩ := Int.eq_ofNat_of_zero_le hy0
  have B6 := hide (fun W => big_any nx 8 W (by decide) (by omega))
  have B7 := hide (fun W => big_any ny 8 W (by decide) (by omega))
  have z6 : (strOfNums (bigL nx 8)).size = 8 := by rw [strOfNums_size, bigL_length]
  have z7 : (strOfNums (bigL ny 8)).size = 8 := by rw [strOfNums_size, bigL_length]
  have C6 : Hid (∀ w1, Below y4.heap.size y4 w1 → w1.cell? ⟨w.heap.size, 6, none⟩ = some (.int .i64 (nx : Int))) := hide (fun w1 hb => by have := (unhide HC w1 (belowTr (unhide HK4) hb)).2.2.1; rw [hnx] at this; exact this)
  have C7 : Hid (∀ w1, Below y4.heap.size y4 w1 → w1.cell? ⟨w.heap.size, 7, none⟩ = some (.int .i64 (ny : Int))) := hide (fun w1 hb => by have := (unhide HC w1 (belowTr (unhide HK4) hb)).2.2.2.1; rw [hny] at this; exact this)
  have HWT : Hid (wayT f.ways = strOfNums (bigL nx 8) ++ strOfNums (bigL ny 8) ++ strOfNums (wayL f.ways.list)) := hide (by
    unfold wayT
    rw [hnx, hny, big_num nx 8 (by decide) (by decide) (by omega), big_num ny 8 (by decide) (by decide) (by omega)]
    rfl)
  generalize strOfNums (bigL nx 8) = T6 at *
  generalize strOfNums (bigL ny 8) = T7 at *
  have ha1 := fun w' => run_string_add_sum (P := Tryz.prog) w' T6 T7 (by omega)
  have hz67 : (T6 ++ T7).size = 16 := by rw [ByteArray.size_append]; omega
  clear hx0 hx1 hy0 hy1 hnx hny z6 z7 c0 c1 c6 c7 c8 c9 c10 c11 c12
  go_upto_region 12 with fail
  refine wp_region_below y4 (Below.refl _ _) (by kernel_rfl) (by kernel_rfl) ?_
  repeat (
    refine Quietly.step (fun K hK => ?_)
    go_simp
    first
      | (refine hK _ ?_; clear hK K)
      | (apply Exists.intro
         refine ⟨fun w1 hw1 => ?_, hK _ ?_⟩
         (first | rfl | (rw [unhide C6 w1 hw1]; exact ⟨rfl, rfl⟩) | (rw [unhide C7 w1 hw1]; exact ⟨rfl, rfl⟩) | (go_at_call_of 22 (Value.int IntKind.i64 (nx : Int)); exact calls_below hw1 (unhide B6 _)) | (go_at_call_of 22 (Value.int IntKind.i64 (ny : Int)); exact calls_below hw1 (unhide B7 _)))
         clear hK K))
  refine Quietly.nil ?_
  intro y5 k5
  have k5' := belowTr (unhide HK4) k5
  have HK5 := hide k5'
  obtain ⟨c0, c1, c6, c7, c8, c9, c10, c11, c12⟩ := unhide HC y5 k5'
  clear k5 k5' C6 C7 B6 B7 ha1 c0 c1 c6 c7 c9 c10 c11 c12
  have HIN := hide hin
  clear hin
  generalize f.ways.listo = lo at *
  generalize f.ways.list = wl at *
  generalize f.ways.listc = lc at *
  generalize T6 ++ T7 = T0 at *
  have hwi : (wl.length : Int) ≤ 20 := by omega
  go_wp2
  go_loopw [8, 54] (fun sv i wr => ∃ k : Nat, k ≤ wl.length ∧ i = .int .i64 k ∧ sv = .string (T0 ++ strOfNums (wayL (wl.take k))) ∧ Below W1.heap.size W1 wr) (fun _ i _ => wl.length - (intOf i).toNat)
  case atStart => exact ⟨0, Nat.zero_le _, rfl, by rw [List.take_zero]; exact congrArg Value.string (by apply ByteArray.ext; simp [wayL, strOfNums]), unhide HK5⟩
  case round =>
    obtain ⟨k, hk, rfl, rfl, hbel⟩ := hrel
    by_cases hlt : k < wl.length
    · obtain ⟨x, hx⟩ : ∃ x, wl[k]? = some x := ⟨_, List.getElem?_eq_getElem hlt⟩
      rcases (unhide HRW).1 with hn | ⟨b, off, rfl, hb, hc⟩
      · rw [hn] at hlt; simp at hlt
      have hst := wayL_take hx
      obtain ⟨d0, d1, d2⟩ := hc k x hx
      have e0 := (hbel.cell (p := ⟨b, off + k * 3, none⟩) hb).trans d0
      have e1 := (hbel.cell (p := ⟨b, off + k * 3 + 1, none⟩) hb).trans d1
      have e2 := (hbel.cell (p := ⟨b, off + k * 3 + 2, none⟩) hb).trans d2
      have hz : (T0 ++ strOfNums (wayL (wl.take k))).size ≤ 100 := by
        rw [ByteArray.size_append, strOfNums_size, wayL_len, List.length_take]; omega
      have hwb := wayL_byte (l := [x]) (fun y hy => by rw [List.mem_singleton.1 hy]; exact unhide HIN x (List.mem_of_getElem? hx))
      obtain ⟨xc, xw, xn⟩ := x
      have w0 : 0 ≤ xc ∧ xc ≤ 255 := hwb xc (by simp [wayL, wayN])
      have w1 : 0 ≤ xw ∧ xw ≤ 255 := hwb xw (by simp [wayL, wayN])
      have HBL := hide hbel
      have hki : (k : Int) < (wl.length : Int) := by omega
      have HST : Hid (∀ n : Int, wayN ⟨xc, xw, xn⟩ = [xc, xw, n] → (T0 ++ strOfNums (wayL (wl.take k))) ++ strOfNums [xc, xw, n] = T0 ++ strOfNums (wayL (wl.take (k + 1)))) := hide (fun n hn => by rw [hst, hn, ByteArray.append_assoc, strOfNums_append])
      have hz3 : ∀ n : Int, (strOfNums [xc, xw, n]).size = 3 := fun n => by rw [strOfNums_size]; rfl
      simp only at e0 e1 e2
      generalize T0 ++ strOfNums (wayL (wl.take k)) = Sk at *
      cases xn with
      | false =>
        have ha2 := fun w' => run_string_add_sum (P := Tryz.prog) w' Sk (strOfNums [xc, xw, 0]) (by rw [hz3]; omega)
        clear hst hc d0 d1 d2 hwb hz hbel hx
        go_wp2_with fail
        refine (bytes3T xc xw 0 w0 w1 (by decide) _ _ _ _ (blk2T _ _ _)).mono ?_
        rintro e z ⟨rfl, kz⟩
        have hzz : Below W1.heap.size W1 z := ext_callQ (ext_allocQ (ext_allocQ (unhide HBL) _) _) kz
        have HZ := hide hzz
        clear kz hzz
        go_wp2
        go_roundw
        case rel => exact ⟨k + 1, by omega, by go_num, by rw [unhide HST 0 rfl], unhide HZ⟩
        case measure => simp [intOf]; omega
      | true =>
        have ha2 := fun w' => run_string_add_sum (P := Tryz.prog) w' Sk (strOfNums [xc, xw, 1]) (by rw [hz3]; omega)
        clear hst hc d0 d1 d2 hwb hz hbel hx
        go_wp2_with fail
        refine (bytes3T xc xw 1 w0 w1 (by decide) _ _ _ _ (blk2T _ _ _)).mono ?_
        rintro e z ⟨rfl, kz⟩
        have hzz : Below W1.heap.size W1 z := ext_callQ (ext_allocQ (ext_allocQ (unhide HBL) _) _) kz
        have HZ := hide hzz
        clear kz hzz
        go_wp2
        go_roundw
        case rel => exact ⟨k + 1, by omega, by go_num, by rw [unhide HST 1 rfl], unhide HZ⟩
        case measure => simp [intOf]; omega
    · rw [List.take_of_length_le (by omega), ← unhide HWT]
      obtain ⟨c0, c1, c6, c7, c8, c9, c10, c11, c12⟩ := unhide HC wr hbel
      have HK6 := hide hbel
      have hE9 : fileE f = masksE f.md f.mo f.mf := by unfold fileE; rw [if_neg (by rw [unhide HID]; decide), if_neg (by rw [unhide HA]; decide), if_neg (by rw [unhide HWY]; decide), if_neg (by rw [unhide HFR]; decide)]
      obtain ⟨Wm, hWm⟩ : ∃ Wm, Wm = wr.alloc (.cells #[.int .i64 f.md, .int .i64 f.mo, .int .i64 f.mf] 30) := ⟨_, rfl⟩
      have hXm : Wm.heap[wr.heap.size]? = some (.cells #[.int .i64 f.md, .int .i64 f.mo, .int .i64 f.mf] 30 (0, 0)) := by rw [hWm]; exact heap_alloc_new _ _
      have hKm : Below W1.heap.size W1 Wm := by rw [hWm]; exact ext_allocQ hbel _
      have HKm := hide hKm; have HXm := hide hXm; have HWm := hide hWm; have HE9 := hide hE9
      have HKZ := hide (belowTr (unhide HB1) hKm)
      clear hbel hE9 hXm hKm hWm HWT
      go_upto_region 22 with fail
      rw [← unhide HWm]
      clear c0 c1 c6 c7 c8 c9 c10 c11 c12
      have m0 : Wm.cell? ⟨wr.heap.size, 0, none⟩ = some (.int .i64 f.md) := cell_of_row _ _ 0 _ _ _ (unhide HXm)
      have m1 : Wm.cell? ⟨wr.heap.size, 1, none⟩ = some (.int .i64 f.mo) := cell_of_row _ _ 1 _ _ _ (unhide HXm)
      have m2 : Wm.cell? ⟨wr.heap.size, 2, none⟩ = some (.int .i64 f.mf) := cell_of_row _ _ 2 _ _ _ (unhide HXm)
      go_wp2_with fail
      refine (rmask_any f.md _).mono ?_
      rintro e z ⟨rfl, hz⟩
      have hz' := hz.symm
      subst hz'
      clear hz
      cases q0 : maskB f.md with
      | false =>
        have h3 : masksE f.md f.mo f.mf = 3 := by unfold masksE; rw [q0]; rfl
        have HQ := hide (And.intro ((unhide HE).trans ((unhide HE9).trans h3)) ((unhide HS).trans (by unfold fileS; rw [unhide HE9, h3])))
        clear h3
        go_wp2
        go_ret2
        exact ⟨retPT (unhide HQ).2.symm (unhide HQ).1.symm, unhide HKZ⟩
      | true =>
      have HQ0 := hide q0
      clear q0
      go_wp2_with fail
      refine (rmask_any f.mo _).mono ?_
      rintro e z ⟨rfl, hz⟩
      have hz' := hz.symm
      subst hz'
      clear hz
      cases q1 : maskB f.mo with
      | false =>
        have h3 : masksE f.md f.mo f.mf = 3 := by unfold masksE; rw [unhide HQ0, q1]; rfl
        have HQ := hide (And.intro ((unhide HE).trans ((unhide HE9).trans h3)) ((unhide HS).trans (by unfold fileS; rw [unhide HE9, h3])))
        clear h3
        go_wp2
        go_ret2
        exact ⟨retPT (unhide HQ).2.symm (unhide HQ).1.symm, unhide HKZ⟩
      | true =>
      have HQ1 := hide q1
      clear q1
      go_wp2_with fail
      refine (rmask_any f.mf _).mono ?_
      rintro e z ⟨rfl, hz⟩
      have hz' := hz.symm
      subst hz'
      clear hz
      cases q2 : maskB f.mf with
      | false =>
        have h3 : masksE f.md f.mo f.mf = 3 := by unfold masksE; rw [unhide HQ0, unhide HQ1, q2]; rfl
        have HQ := hide (And.intro ((unhide HE).trans ((unhide HE9).trans h3)) ((unhide HS).trans (by unfold fileS; rw [unhide HE9, h3])))
        clear h3
        go_wp2
        go_ret2
        exact ⟨retPT (unhide HQ).2.symm (unhide HQ).1.symm, unhide HKZ⟩
      | true =>
      have h3 : masksE f.md f.mo f.mf = 0 := by unfold masksE; rw [unhide HQ0, unhide HQ1, q2]; rfl
      have hmS : masksS f.md f.mo f.mf = numS f.md 2 ++ numS f.mo 2 ++ numS f.mf 2 := by unfold masksS; rw [unhide HQ0, unhide HQ1, q2]; rfl
      have HQ := hide (And.intro ((unhide HE).trans ((unhide HE9).trans h3)) ((unhide HS).trans (by unfold fileS; rw [unhide HE9, h3, if_pos rfl])))
      obtain ⟨r0, r0'⟩ := inT_true.1 (unhide HQ0)
      obtain ⟨r1, r1'⟩ := inT_true.1 (unhide HQ1)
      obtain ⟨r2, r2'⟩ := inT_true.1 q2
      have hidz : f.id.size ≤ 19 := by
        have h1 := unhide HID
        unfold idB at h1
        have h2 := inT_true.1 (Bool.and_eq_true_iff.1 h1).1
        omega
      have hbk := fileL_bulk hidz (appsS_size (unhide HA)) (waysE_zero (unhide HWY)).1 (fieldsE_zero (unhide HFR)).2
      have hrn := rowN_bulk (fileL f)
      have NRW := hide (fun (W : World) => rrow_any (fileL f) (some ⟨W.heap.size, 0, none⟩) 5 (W.alloc (.cells #[.string f.id, .string (appsS f.apps), .string (wayT f.ways), .string (masksS f.md f.mo f.mf), .string (printS f.row)] 9)) (trow5 W _ _ _ _ _) (by have hl : (fileL f).length = 5 := rfl; omega) (by show ((5 : Nat) : Int) ≤ _; decide))
      rw [hmS] at NRW
      have hln : (fileL f).length = 5 := rfl
      rw [hln] at NRW
      generalize rowS (fileL f) = R9 at *
      obtain ⟨n0, hn0⟩ := Int.eq_ofNat_of_zero_le r0
      obtain ⟨n1, hn1⟩ := Int.eq_ofNat_of_zero_le r1
      obtain ⟨n2, hn2⟩ := Int.eq_ofNat_of_zero_le r2
      have g0 : numS f.md 2 = strOfNums (bigL n0 2) := by rw [hn0]; exact (big_num n0 2 (by decide) (by decide) (by omega)).symm
      have g1 : numS f.mo 2 = strOfNums (bigL n1 2) := by rw [hn1]; exact (big_num n1 2 (by decide) (by decide) (by omega)).symm
      have g2 : numS f.mf 2 = strOfNums (bigL n2 2) := by rw [hn2]; exact (big_num n2 2 (by decide) (by decide) (by omega)).symm
      rw [g0, g1, g2] at NRW
      have B0 := hide (fun W => big_any n0 2 W (by decide) (by omega))
      have B1 := hide (fun W => big_any n1 2 W (by decide) (by omega))
      have B2 := hide (fun W => big_any n2 2 W (by decide) (by omega))
      have z0 : (strOfNums (bigL n0 2)).size = 2 := by rw [strOfNums_size, bigL_length]
      have z1 : (strOfNums (bigL n1 2)).size = 2 := by rw [strOfNums_size, bigL_length]
      have z2 : (strOfNums (bigL n2 2)).size = 2 := by rw [strOfNums_size, bigL_length]
      rw [hn0] at m0
      rw [hn1] at m1
      rw [hn2] at m2
      have HS4 : Hid (∀ W, Below Wm.heap.size Wm W → W.cell? ⟨w.heap.size, 0, none⟩ = some (.string f.id) ∧ W.cell? ⟨wr.heap.size, 0, none⟩ = some (.int .i64 (n0 : Int)) ∧ W.cell? ⟨wr.heap.size, 1, none⟩ = some (.int .i64 (n1 : Int)) ∧ W.cell? ⟨wr.heap.size, 2, none⟩ = some (.int .i64 (n2 : Int))) := hide (fun W hb => by
        have hlt := block_ltQ (unhide HXm)
        exact ⟨(unhide HC W (belowTr (unhide HKm) hb)).1, (hb.cell (p := ⟨wr.heap.size, 0, none⟩) hlt).trans m0, (hb.cell (p := ⟨wr.heap.size, 1, none⟩) hlt).trans m1, (hb.cell (p := ⟨wr.heap.size, 2, none⟩) hlt).trans m2⟩)
      generalize strOfNums (bigL n0 2) = D0 at *
      generalize strOfNums (bigL n1 2) = D1 at *
      generalize strOfNums (bigL n2 2) = D2 at *
      generalize appsS f.apps = t1 at *
      generalize wayT f.ways = t2 at *
      generalize printS f.row = t4 at *
      have z01 : (D0 ++ D1).size = 4 := by rw [ByteArray.size_append]; omega
      have ha1 := fun w' => run_string_add_sum (P := Tryz.prog) w' D0 D1 (by omega)
      have ha2 := fun w' => run_string_add_sum (P := Tryz.prog) w' (D0 ++ D1) D2 (by omega)
      have HB1' := hide (belowTr (unhide HB1) (unhide HKm))
      have hs0 := unhide HS4 Wm.drew (Below.refl _ _).drew
      clear h3 hmS r0 r0' r1 r1' r2 r2' q2 hidz hbk hrn hln hn0 hn1 hn2 g0 g1 g2 z0 z1 z2 m0 m1 m2 HC HWm HXm HK6 HK5 HK4 HK3 HK2 HK1
      go_upto_region 24 with fail
      go_wp2_with fail
      go_region_held3 (fun W => W.cell? ⟨w.heap.size, 0, none⟩ = some (.string f.id) ∧ W.cell? ⟨wr.heap.size, 0, none⟩ = some (.int .i64 (n0 : Int)) ∧ W.cell? ⟨wr.heap.size, 1, none⟩ = some (.int .i64 (n1 : Int)) ∧ W.cell? ⟨wr.heap.size, 2, none⟩ = some (.int .i64 (n2 : Int)))
        (first | (with_reducible exact hs4) | (with_reducible exact hs3) | (with_reducible exact hs2) | (with_reducible exact hs1) | (with_reducible exact hs0) | exact unhide HS4 _ (b3.alloc b3.size _))
        ((first
          | (have hq := b3; go_at_call 43; refine (unhide NRW z3).mono ?_; rintro ev z4 ⟨rfl, j4⟩; have b4 : Below Wm.heap.size Wm z4 := (b3.alloc b3.size _).trans (j4.mono (b3.alloc b3.size _).size); have hs4 := unhide HS4 z4 b4)
          | (have hq := b2; go_at_call_of 22 (Value.int IntKind.i64 (n2 : Int)); refine (unhide B2 _).mono ?_; rintro ev z3 ⟨rfl, j3⟩; have b3 : Below Wm.heap.size Wm z3 := b2.trans (j3.mono b2.size); have hs3 := unhide HS4 z3 b3)
          | (have hq := b1; go_at_call_of 22 (Value.int IntKind.i64 (n1 : Int)); refine (unhide B1 _).mono ?_; rintro ev z2 ⟨rfl, j2⟩; have b2 : Below Wm.heap.size Wm z2 := b1.trans (j2.mono b1.size); have hs2 := unhide HS4 z2 b2)
          | (go_at_call_of 22 (Value.int IntKind.i64 (n0 : Int)); refine (unhide B0 _).mono ?_; rintro ev z1 ⟨rfl, j1⟩; have b1 : Below Wm.heap.size Wm z1 := (Below.refl _ _).drew.trans j1; have hs1 := unhide HS4 z1 b1)))
      all_goals
        have HJZ := hide (belowTr (unhide HB1') b4)
        clear hs0 hs1 hs2 hs3 hs4 b1 b2 b3 b4 j1 j2 j3 j4
        go_wp2
        go_ret2
        exact ⟨retPT (unhide HQ).2.symm (unhide HQ).1.symm, unhide HJZ⟩
end Go.Proofs.YtfpglpefofcdeaaGreatDoor
