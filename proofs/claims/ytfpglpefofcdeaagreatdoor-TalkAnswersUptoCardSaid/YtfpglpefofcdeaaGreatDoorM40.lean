/- An answer's text, by the document's own: a part of the walk (a.er = 0 ∧ a.dO = 3). Made by drafts/genTgE3.py. -/
import Derived.Test.YtfpglpefofcdeaaGreatDoorM38
import Derived.Deep.DeepCutAuto
namespace Go.Proofs.YtfpglpefofcdeaaGreatDoor
open Go.RowKit
set_option linter.unusedVariables false
set_option linter.unusedSimpArgs false
set_option maxRecDepth 100000

set_option maxHeartbeats 8000000 in
theorem ranswer_g2 (a : An) (w : World) (hok : AnOK w a) (hz : anZ a ≤ 1048576) (hd : inT a.dO 1 7 = true) (hg : a.er = 0 ∧ a.dO = 3) :
    Calls Tryz.prog 6 #[.agg (anC a)] w fun e w' => e = .returned (.tuple #[.string (answerS a), .int .i64 (answerE a)]) ∧ Below w.heap.size w w' := by
  have HG := hide hg
  clear hg
  obtain ⟨hd1, hd7⟩ := inT_true.1 hd
  obtain ⟨W1, hW1⟩ : ∃ W1, W1 = w.alloc (.cells (anC a) 37) := ⟨_, rfl⟩
  have hX1 : W1.heap[w.heap.size]? = some (.cells (anC a) 37 (0, 0)) := by rw [hW1]; exact heap_alloc_new _ _
  have hS1 : W1.heap.size = w.heap.size + 1 := by rw [hW1]; simp
  have hB1 : Below w.heap.size w W1 := by rw [hW1]; exact (Below.refl _ _).alloc (Nat.le_refl _) _
  obtain ⟨f0, hf0⟩ : ∃ f0, f0 = farN a.er 1 := ⟨_, rfl⟩
  obtain ⟨W3, hW3⟩ : ∃ W3, W3 = W1.alloc (.cells #[.bool f0] 4) := ⟨_, rfl⟩
  have hF3 : W3.heap[W1.heap.size]? = some (.cells #[.bool f0] 4 (0, 0)) := by rw [hW3]; exact heap_alloc_new _ _
  have hB3 : Below W1.heap.size W1 W3 := by rw [hW3]; exact (Below.refl _ _).alloc (Nat.le_refl _) _
  have hX3 := (hB3.block _ (block_ltQ hX1)).trans hX1
  have hok3 := (hok.below hB1).below hB3
  have HOKw := hide hok
  have c0 : W1.cell? ⟨w.heap.size, 0, none⟩ = some (.int .i64 a.er) := cell_of_row _ _ 0 _ _ _ hX1
  have c1 : W1.cell? ⟨w.heap.size, 1, none⟩ = some (.int .i64 a.dO) := cell_of_row _ _ 1 _ _ _ hX1
  have HS : Hid (∀ W, Below W3.heap.size W3 W → Below W3.heap.size W3 W ∧ W.cell? ⟨w.heap.size, 0, none⟩ = some (.int .i64 a.er) ∧ W.cell? ⟨w.heap.size, 1, none⟩ = some (.int .i64 a.dO)) := hide (fun W hb => by
    have hx := (hb.block _ (block_ltQ hX3)).trans hX3
    exact ⟨hb, cell_of_row _ _ 0 _ _ _ hx, cell_of_row _ _ 1 _ _ _ hx⟩)
  have N1 := hide (fun W => ritem_any 128 (strOfNums [lowByte a.er]) W ⟨by decide, by decide⟩ (by rw [strOfNums_size]; exact (by decide : 1 ≤ 9000000)))
  have N2 := hide (fun W => ritem_any 129 (strOfNums [lowByte a.dO]) W ⟨by decide, by decide⟩ (by rw [strOfNums_size]; exact (by decide : 1 ≤ 9000000)))
  have hi1 := itS_size 128 (strOfNums [lowByte a.er])
  have hi2 := itS_size 129 (strOfNums [lowByte a.dO])
  have hq1 : lenLen (strOfNums [lowByte a.er]).size = 1 := by rw [strOfNums_size]; rfl
  have hq2 : lenLen (strOfNums [lowByte a.dO]).size = 1 := by rw [strOfNums_size]; rfl
  have hr1 : (strOfNums [lowByte a.er]).size = 1 := by rw [strOfNums_size]; rfl
  have hr2 : (strOfNums [lowByte a.dO]).size = 1 := by rw [strOfNums_size]; rfl
  have HL0 : Hid (inL (docL0 a) = itS 128 (strOfNums [lowByte a.er]) ++ itS 129 (strOfNums [lowByte a.dO])) := hide (by
    rw [low_same (z := a.dO) (by omega)]
    show itS 128 (strOfNums [lowByte a.er]) ++ (itS 129 (strOfNums [a.dO]) ++ (⟨#[]⟩ : ByteArray)) = _
    rw [app_nil])
  have ha := fun w' => run_string_add_sum (P := Tryz.prog) w' (itS 128 (strOfNums [lowByte a.er])) (itS 129 (strOfNums [lowByte a.dO])) (by omega)
  have HW1 := hide hW1; have HB1 := hide hB1; have HW3 := hide hW3; have HF3 := hide hF3; have HX3 := hide hX3; have HB3 := hide hB3; have HF0 := hide hf0; have HS1 := hide hS1; have HD := hide hd; have HZ := hide hz
  have hn1 : ¬ a.dO < 1 := by omega
  have hn7 : ¬ 7 < a.dO := by omega
  generalize itS 128 (strOfNums [lowByte a.er]) = I1 at *
  generalize itS 129 (strOfNums [lowByte a.dO]) = I2 at *
  clear hW1 hB1 hW3 hF3 hB3 hX3 hX1 hok3 hok hi1 hi2 hq1 hq2 hr1 hr2 hd1 hd7 hz hd hS1
  obtain ⟨LA, hLA⟩ : ∃ LA, LA = anC a := ⟨_, rfl⟩
  rw [← hLA] at HW1
  rw [← hLA]
  have HLA := hide hLA
  clear hLA
  go_enter Tryz.func6, Tryz.ntmps6
  go_upto_region 1 with fail
  rw [← unhide HW1]
  go_upto_region 3 with fail
  go_cut [4] (fun v wx => v = .pointer (some ⟨W1.heap.size, 0, none⟩) ∧ wx = W3)
  case first =>
    rcases fcaseT hf0 with ⟨h0, rfl⟩ | ⟨h0, h1, rfl⟩ | ⟨h0, h1, rfl⟩
    all_goals
      clear hf0
      go_wp2
      go_meet
      exact ⟨rfl, (unhide HW3).symm⟩
  case rest =>
  obtain ⟨rfl, hwc⟩ := hcut
  have hwc' := hwc.symm
  subst hwc'
  clear c0 c1 hn1 hn7 hf0 hwc
  go_upto_region 4 with fail
  go_cut [5] (fun v wx => ∃ I, v = .pointer (some ⟨I, 0, none⟩) ∧ wx.heap[I]? = some (.cells #[.string (I1 ++ I2)] 9 (0, 0)) ∧ Below W3.heap.size W3 wx ∧ W3.heap.size ≤ I)
  case first =>
    refine wp_drawnI (by kernel_rfl) 177 (by rfl) (by kernel_rfl) (by kernel_rfl) 5 (fun W => Below W3.heap.size W3 W) (phi4 W3.heap.size w.heap.size a.er a.dO I1 I2) ((Below.refl _ _).drew) ?_ ?_
    · refine ⟨?_, ?_, ?_, ?_, ?_, ?_, ?_, ?_, ?_, ?_, ?_, ?_, ?_, trivial⟩
      · intro ac wx hG hpre hoff
        have h1 : ac.eval (.tmp 1) = .pointer (some ⟨w.heap.size, 0, none⟩) := (hoff 1 (by kernel_rfl)).trans rfl
        have e1 := evT h1
        clear hpre hoff
        refine Does.value (.pointer (some ⟨w.heap.size, 0, none⟩)) wx ?_ ⟨hG, rfl, fun k y _ h => keepN (by decide) h⟩
        go_simp
      · intro ac wx hG hpre hoff
        have h1 : ac.eval (.tmp 31) = .pointer (some ⟨w.heap.size, 0, none⟩) := hpre 0 (by kernel_rfl)
        have e1 := evT h1
        obtain ⟨_, q0, q1⟩ := unhide HS wx hG
        clear hpre hoff
        refine Does.value (.int .i64 a.er) wx ?_ ⟨hG, rfl, fun k y _ h => keepN (by decide) h⟩
        go_simp
      · intro ac wx hG hpre hoff
        have h1 : ac.eval (.tmp 32) = .int .i64 a.er := hpre 1 (by kernel_rfl)
        have e1 := evT h1
        clear hpre hoff
        refine Does.value (.slice (some ⟨wx.heap.size, 0, none⟩) 1 1) (wx.alloc (.cells #[.int .i64 a.er] 3)) ?_ ⟨ext_allocQ hG _, ⟨_, _, rfl, heap_alloc_new _ _⟩, fun k y _ h => keepN (by decide) (phi4_keep (keepA _) _ _ _ h)⟩
        go_simp
      · intro ac wx hG hpre hoff
        obtain ⟨g, cap, h1, hg⟩ : ∃ g cap, ac.eval (.tmp 33) = .slice (some ⟨g, 0, none⟩) 1 cap ∧ wx.heap[g]? = some (.cells #[.int .i64 a.er] 3 (0, 0)) := hpre 2 (by kernel_rfl)
        clear hpre hoff
        refine does_call1 19 (.tmp 33) _ rfl _ h1 ent_rbytes (bytes_oneH a.er g cap wx _ hg) ?_
        rintro e w' ⟨rfl, hb⟩
        exact ⟨_, rfl, ext_callQ hG hb, rfl, fun k y _ h => keepN (by decide) (phi4_keep (keepB hb) _ _ _ h)⟩
      · intro ac wx hG hpre hoff
        have h1 : ac.eval (.tmp 34) = .string (strOfNums [lowByte a.er]) := hpre 3 (by kernel_rfl)
        have e1 := evT h1
        clear hpre hoff
        refine does_call2 18 (.const (.int .i64 128)) (.tmp 34) _ rfl _ _ rfl h1 ent_ritem (unhide N1 wx) ?_
        rintro e w' ⟨rfl, hb⟩
        exact ⟨_, rfl, ext_callQ hG hb, rfl, fun k y _ h => keepN (by decide) (phi4_keep (keepB hb) _ _ _ h)⟩
      · intro ac wx hG hpre hoff
        have h1 : ac.eval (.tmp 1) = .pointer (some ⟨w.heap.size, 0, none⟩) := (hoff 1 (by kernel_rfl)).trans rfl
        have e1 := evT h1
        clear hpre hoff
        refine Does.value (.pointer (some ⟨w.heap.size, 1, none⟩)) wx ?_ ⟨hG, rfl, fun k y _ h => keepN (by decide) h⟩
        go_simp
      · intro ac wx hG hpre hoff
        have h1 : ac.eval (.tmp 36) = .pointer (some ⟨w.heap.size, 1, none⟩) := hpre 5 (by kernel_rfl)
        have e1 := evT h1
        obtain ⟨_, q0, q1⟩ := unhide HS wx hG
        clear hpre hoff
        refine Does.value (.int .i64 a.dO) wx ?_ ⟨hG, rfl, fun k y _ h => keepN (by decide) h⟩
        go_simp
      · intro ac wx hG hpre hoff
        have h1 : ac.eval (.tmp 37) = .int .i64 a.dO := hpre 6 (by kernel_rfl)
        have e1 := evT h1
        clear hpre hoff
        refine Does.value (.slice (some ⟨wx.heap.size, 0, none⟩) 1 1) (wx.alloc (.cells #[.int .i64 a.dO] 3)) ?_ ⟨ext_allocQ hG _, ⟨_, _, rfl, heap_alloc_new _ _⟩, fun k y _ h => keepN (by decide) (phi4_keep (keepA _) _ _ _ h)⟩
        go_simp
      · intro ac wx hG hpre hoff
        obtain ⟨g, cap, h1, hg⟩ : ∃ g cap, ac.eval (.tmp 38) = .slice (some ⟨g, 0, none⟩) 1 cap ∧ wx.heap[g]? = some (.cells #[.int .i64 a.dO] 3 (0, 0)) := hpre 7 (by kernel_rfl)
        clear hpre hoff
        refine does_call1 19 (.tmp 38) _ rfl _ h1 ent_rbytes (bytes_oneH a.dO g cap wx _ hg) ?_
        rintro e w' ⟨rfl, hb⟩
        exact ⟨_, rfl, ext_callQ hG hb, rfl, fun k y _ h => keepN (by decide) (phi4_keep (keepB hb) _ _ _ h)⟩
      · intro ac wx hG hpre hoff
        have h1 : ac.eval (.tmp 39) = .string (strOfNums [lowByte a.dO]) := hpre 8 (by kernel_rfl)
        have e1 := evT h1
        clear hpre hoff
        refine does_call2 18 (.const (.int .i64 129)) (.tmp 39) _ rfl _ _ rfl h1 ent_ritem (unhide N2 wx) ?_
        rintro e w' ⟨rfl, hb⟩
        exact ⟨_, rfl, ext_callQ hG hb, rfl, fun k y _ h => keepN (by decide) (phi4_keep (keepB hb) _ _ _ h)⟩
      · intro ac wx hG hpre hoff
        have h1 : ac.eval (.tmp 35) = .string I1 := hpre 4 (by kernel_rfl)
        have e1 := evT h1
        have h2 : ac.eval (.tmp 40) = .string I2 := hpre 9 (by kernel_rfl)
        have e2 := evT h2
        clear hpre hoff
        refine Does.value (.string (I1 ++ I2)) wx ?_ ⟨hG, rfl, fun k y _ h => keepN (by decide) h⟩
        go_simp
      · intro ac wx hG hpre hoff
        clear hpre hoff
        refine Does.value (.pointer (some ⟨wx.heap.size, 0, none⟩)) (wx.alloc (.cells #[.string ⟨#[]⟩] 9)) ?_ ⟨ext_allocQ hG _, ⟨_, _, rfl, heap_alloc_new _ _, hG.size⟩, fun k y hw h => phi4_u _ _ _ _ (fun e => by subst e; exact Bool.noConfusion (hw.symm.trans (show _ = true by kernel_rfl))) (phi4_keep (keepA _) _ _ _ h)⟩
        go_simp
      · intro ac wx hG hpre hoff
        have h1 : ac.eval (.tmp 41) = .string (I1 ++ I2) := hpre 10 (by kernel_rfl)
        have e1 := evT h1
        obtain ⟨I, s0, h2, hI, hle⟩ : ∃ I s, ac.eval (.tmp 5) = .pointer (some ⟨I, 0, none⟩) ∧ wx.heap[I]? = some (.cells #[.string s] 9 (0, 0)) ∧ W3.heap.size ≤ I := hpre 11 (by kernel_rfl)
        have e2 := evT h2
        clear hpre hoff
        have q0 : wx.cell? ⟨I, 0, none⟩ = some (.string s0) := cell_of_row _ _ 0 _ _ _ hI
        have q1 : wx.frozen? ⟨I, 0, none⟩ = false := frozen_of_row _ _ 0 _ _ hI
        refine Does.skip (wx.setCell ⟨I, 0, none⟩ (.string (I1 ++ I2))) ?_ ⟨Below.setCell (p := ⟨I, 0, none⟩) hG hle _, keepN (by decide) ⟨I, h2, set_oneT hI, hle⟩, fun k y hw h => keepN (by decide) ?_⟩
        · go_simp
        · by_cases hk : k = 12
          · subst hk
            exact ⟨I, h2, set_oneT hI, hle⟩
          · exact phi4_store hI _ _ _ hk h
    · intro ac wx hdf hsz hoff hG hall
      obtain ⟨I, h5, hI, hle⟩ : ∃ I, ac.eval (.tmp 5) = .pointer (some ⟨I, 0, none⟩) ∧ wx.heap[I]? = some (.cells #[.string (I1 ++ I2)] 9 (0, 0)) ∧ W3.heap.size ≤ I := hall 12 (by decide)
      have h5' : ac.tmps.getD 5 undef = .pointer (some ⟨I, 0, none⟩) := h5
      have hmix := mix_eq [false, false, false, false, false, true, false, false, false, false, false, false, false, false, false, false, false, false, false, false, false, false, false, false, false, false, false, false, false, false, false, true, true, true, true, true, true, true, true, true, true, true, false, false, false, false, false, false, false, false, false, false, false, false, false, false, false, false, false, false, false, false, false, false, false, false, false, false, false, false, false, false, false, false, false, false, false, false, false, false, false, false, false, false, false, false, false, false, false, false, false, false, false, false, false, false, false, false, false, false, false, false, false, false, false, false, false, false, false, false, false, false, false, false, false, false, false, false, false, false, false, false, false, false, false, false, false, false, false, false, false, false, false, false, false, false, false, false, false, false, false, false, false, false, false, false, false, false, false, false, false, false, false, false, false, false, false, false, false, false, false, false, false, false, false, false, false, false, false, false, false, false, false, false, false, false, false] rfl rfl hsz hdf (by kernel_rfl) hoff
      clear hoff hall hsz hdf h5
      simp only [mixL, Nat.reduceAdd, h5'] at hmix
      rw [hmix]
      clear hmix
      go_wp2
      go_meet
      exact ⟨I, rfl, hI, hG, hle⟩
  case rest =>
  obtain ⟨I, rfl, hI, hbI, hle⟩ := hcut
  have hst : ∀ (fn : Fn) (f c : Array Value) (a : Addr) (m : Mode) (wx : World), (store a (.func fn f c) m).run Tryz.prog wx = stored Tryz.prog wx a (.func fn f c) m := fun fn f c a m wx => run_store _ wx a _ m rfl
  obtain ⟨W8, hW8⟩ : ∃ W8, W8 = (wc.alloc (.cells #[.bool false] 4)).alloc (.cells #[.func (.func 20) #[] #[.pointer (some ⟨wc.heap.size, 0, none⟩), .pointer (some ⟨I, 0, none⟩)]] 63) := ⟨_, rfl⟩
  have hb8 : Below wc.heap.size wc W8 := by rw [hW8]; exact ((Below.refl _ _).alloc (Nat.le_refl _) _).alloc (by simp) _
  have hG8 : W8.heap[wc.heap.size]? = some (.cells #[.bool false] 4 (0, 0)) := by rw [hW8]; exact alloc_keepQT (heap_alloc_new _ _)
  have hX8 : W8.heap[wc.heap.size + 1]? = some (.cells #[.func (.func 20) #[] #[.pointer (some ⟨wc.heap.size, 0, none⟩), .pointer (some ⟨I, 0, none⟩)]] 63 (0, 0)) := by rw [hW8]; exact blk2T _ _ _
  have h38 : Below W3.heap.size W3 W8 := ext_callQ hbI hb8
  have hs3 : W3.heap.size = W1.heap.size + 1 := by rw [unhide HW3]; simp
  have hS1' := unhide HS1
  have hl0 : longL (docL0 a) = false := by
    unfold longL docL0
    simp [strOfNums_size]
  have hst8 : AnSt W8 w.heap.size W1.heap.size I wc.heap.size (wc.heap.size + 1) a f0 (docL0 a) :=
    ⟨(h38.block _ (block_ltQ (unhide HX3))).trans (unhide HX3), (h38.block _ (block_ltQ (unhide HF3))).trans (unhide HF3), by rw [unhide HL0]; exact (hb8.block _ (block_ltQ hI)).trans hI, by rw [hl0]; exact hG8, hX8, by omega, by omega, block_ltQ hI, by omega⟩
  have HST := hide hst8; have HW8 := hide hW8; have H38 := hide h38
  clear hI hbI hb8 hG8 hX8 h38 hs3 hl0 hst8 hW8 hS1'
  go_upto_region 9 with fail
  rw [← unhide HW8]
  have HLE : Hid (w.heap.size ≤ W1.heap.size) := hide (by rw [unhide HS1]; omega)
  have B0 : Hid (Below w.heap.size w W8) := hide (ext_callQ (ext_callQ (unhide HB1) (unhide HB3)) (unhide H38))
  have H0 := HST
  have Z0 : Hid ((inL (docL0 a)).size ≤ 100) := hide (by
    have h := inL_bound (docL0 a)
    have e : wtL (docL0 a) ≤ 10 := by unfold docL0 wtL; simp [strOfNums_size]
    have e2 : (docL0 a).length = 2 := rfl
    omega)
  obtain ⟨c0, c1, c2, c3, c4, c5, c6, c7, c8, c9, c10, c11, c12, c13, c14, c15, c16, c17, c18, c19, c20, c21, c22, c23⟩ := anAt_of (unhide H0).box
  have cX : W8.cell? ⟨wc.heap.size + 1, 0, none⟩ = some (.func (.func 20) #[] #[.pointer (some ⟨wc.heap.size, 0, none⟩), .pointer (some ⟨I, 0, none⟩)]) := cell_of_row _ _ 0 _ _ _ (unhide H0).txt
  obtain ⟨q0, hq0⟩ : ∃ q0, q0 = (a.er == 0) := ⟨_, rfl⟩
  have HQ0 := hide hq0
  have hq0' := hq0.symm
  clear hq0
  go_upto_block 0 with fail
  clear hq0'
  go_cut [6] (fun lv wx => ∃ (far : Bool) (late : Int) (L : List (Int × ByteArray)), lv = .int .i64 late ∧ AnSt wx w.heap.size W1.heap.size I wc.heap.size (wc.heap.size + 1) a far L ∧ Below w.heap.size w wx ∧ (ansW a = if far = true then 3 else late) ∧ (far = false → late = 0 → L = ansL a) ∧ (inL L).size ≤ 9000000)
  case first =>
    obtain ⟨h0, hdo⟩ := unhide HG
    have hq1 : q0 = true := by rw [unhide HQ0]; simpa using h0
    subst hq1
    rw [h0] at c0
    have h1 := hdo
    · rw [h1] at c1
      have HEND := hide (end_file (unhide HD) h0 h1)
      have hzf2 := fileS_le a.fl
      have hzf : (fileS a.fl).size ≤ 9000000 := by omega
      have NF := hide (fun W (hb : Below w.heap.size w W) => rfileText_any a.fl W ((unhide HOKw).below hb).fl)
      generalize fileS a.fl = sf at *
      generalize fileE a.fl = ef at *
      go_wp2_with fail
      refine ((unhide H0).num 131 a.count 2 (by decide) ⟨by decide, by decide⟩ (unhide HOKw).count (by have := unhide Z0; omega)).mono ?_
      rintro e y1 ⟨rfl, hs1, k1⟩
      have H1 := hide hs1; have B1 := hide ((unhide B0).trans (k1.mono (unhide HLE)))
      have Z1 := hide (inL_step (unhide Z0) (t := 131) (s := bigT a.count 2) (M := 2) (by unfold bigT; rw [strOfNums_size, bigL_length]; decide))
      clear hs1 k1
      clear c0 c1 c2 c3 c4 c5 c6 c7 c8 c9 c10 c11 c12 c13 c14 c15 c16 c17 c18 c19 c20 c21 c22 c23 cX
      obtain ⟨c0, c1, c2, c3, c4, c5, c6, c7, c8, c9, c10, c11, c12, c13, c14, c15, c16, c17, c18, c19, c20, c21, c22, c23⟩ := anAt_of (unhide H1).box
      have cX : y1.cell? ⟨wc.heap.size + 1, 0, none⟩ = some (.func (.func 20) #[] #[.pointer (some ⟨wc.heap.size, 0, none⟩), .pointer (some ⟨I, 0, none⟩)]) := cell_of_row _ _ 0 _ _ _ (unhide H1).txt
      go_wp2_with fail
      refine ((unhide H1).num 132 a.last 2 (by decide) ⟨by decide, by decide⟩ (unhide HOKw).last (by have := unhide Z1; omega)).mono ?_
      rintro e y2 ⟨rfl, hs2, k2⟩
      have H2 := hide hs2; have B2 := hide ((unhide B1).trans (k2.mono (unhide HLE)))
      have Z2 := hide (inL_step (unhide Z1) (t := 132) (s := bigT a.last 2) (M := 2) (by unfold bigT; rw [strOfNums_size, bigL_length]; decide))
      clear hs2 k2
      clear c0 c1 c2 c3 c4 c5 c6 c7 c8 c9 c10 c11 c12 c13 c14 c15 c16 c17 c18 c19 c20 c21 c22 c23 cX
      obtain ⟨c0, c1, c2, c3, c4, c5, c6, c7, c8, c9, c10, c11, c12, c13, c14, c15, c16, c17, c18, c19, c20, c21, c22, c23⟩ := anAt_of (unhide H2).box
      have cX : y2.cell? ⟨wc.heap.size + 1, 0, none⟩ = some (.func (.func 20) #[] #[.pointer (some ⟨wc.heap.size, 0, none⟩), .pointer (some ⟨I, 0, none⟩)]) := cell_of_row _ _ 0 _ _ _ (unhide H2).txt
      go_wp2_with fail
      refine (unhide NF _ (unhide B2)).mono ?_
      rintro e y3 ⟨rfl, k3⟩
      have H3 := hide ((unhide H2).keep k3); have B3 := hide (ext_callQ (unhide B2) k3); have Z3 := Z2
      clear k3
      clear c0 c1 c2 c3 c4 c5 c6 c7 c8 c9 c10 c11 c12 c13 c14 c15 c16 c17 c18 c19 c20 c21 c22 c23 cX
      obtain ⟨c0, c1, c2, c3, c4, c5, c6, c7, c8, c9, c10, c11, c12, c13, c14, c15, c16, c17, c18, c19, c20, c21, c22, c23⟩ := anAt_of (unhide H3).box
      have cX : y3.cell? ⟨wc.heap.size + 1, 0, none⟩ = some (.func (.func 20) #[] #[.pointer (some ⟨wc.heap.size, 0, none⟩), .pointer (some ⟨I, 0, none⟩)]) := cell_of_row _ _ 0 _ _ _ (unhide H3).txt
      go_wp2_with fail
      refine ((unhide H3).text 133 sf ⟨by decide, by decide⟩ hzf (by have := unhide Z3; omega)).mono ?_
      rintro e y4 ⟨rfl, hs4, k4⟩
      have H4 := hide hs4; have B4 := hide ((unhide B3).trans (k4.mono (unhide HLE)))
      have Z4 := hide (inL_step (unhide Z3) (t := 133) (s := sf) (M := 300000) hzf2)
      clear hs4 k4
      clear c0 c1 c2 c3 c4 c5 c6 c7 c8 c9 c10 c11 c12 c13 c14 c15 c16 c17 c18 c19 c20 c21 c22 c23 cX
      obtain ⟨c0, c1, c2, c3, c4, c5, c6, c7, c8, c9, c10, c11, c12, c13, c14, c15, c16, c17, c18, c19, c20, c21, c22, c23⟩ := anAt_of (unhide H4).box
      have cX : y4.cell? ⟨wc.heap.size + 1, 0, none⟩ = some (.func (.func 20) #[] #[.pointer (some ⟨wc.heap.size, 0, none⟩), .pointer (some ⟨I, 0, none⟩)]) := cell_of_row _ _ 0 _ _ _ (unhide H4).txt
      go_wp2_with fail
      refine ((unhide H4).text 134 a.fl.isig ⟨by decide, by decide⟩ (by have := unhide HZ; unfold anZ at this; omega) (by have := unhide Z4; omega)).mono ?_
      rintro e y5 ⟨rfl, hs5, k5⟩
      have H5 := hide hs5; have B5 := hide ((unhide B4).trans (k5.mono (unhide HLE)))
      have Z5 := hide (inL_step (unhide Z4) (t := 134) (s := a.fl.isig) (M := 1048576) (by have := unhide HZ; unfold anZ at this; omega))
      clear hs5 k5
      clear c0 c1 c2 c3 c4 c5 c6 c7 c8 c9 c10 c11 c12 c13 c14 c15 c16 c17 c18 c19 c20 c21 c22 c23 cX
      obtain ⟨c0, c1, c2, c3, c4, c5, c6, c7, c8, c9, c10, c11, c12, c13, c14, c15, c16, c17, c18, c19, c20, c21, c22, c23⟩ := anAt_of (unhide H5).box
      have cX : y5.cell? ⟨wc.heap.size + 1, 0, none⟩ = some (.func (.func 20) #[] #[.pointer (some ⟨wc.heap.size, 0, none⟩), .pointer (some ⟨I, 0, none⟩)]) := cell_of_row _ _ 0 _ _ _ (unhide H5).txt
      go_wp2_with fail
      refine ((unhide H5).text 135 a.fl.irest ⟨by decide, by decide⟩ (by have := unhide HZ; unfold anZ at this; omega) (by have := unhide Z5; omega)).mono ?_
      rintro e y6 ⟨rfl, hs6, k6⟩
      have H6 := hide hs6; have B6 := hide ((unhide B5).trans (k6.mono (unhide HLE)))
      have Z6 := hide (inL_step (unhide Z5) (t := 135) (s := a.fl.irest) (M := 1048576) (by have := unhide HZ; unfold anZ at this; omega))
      clear hs6 k6
      clear c0 c1 c2 c3 c4 c5 c6 c7 c8 c9 c10 c11 c12 c13 c14 c15 c16 c17 c18 c19 c20 c21 c22 c23 cX
      obtain ⟨c0, c1, c2, c3, c4, c5, c6, c7, c8, c9, c10, c11, c12, c13, c14, c15, c16, c17, c18, c19, c20, c21, c22, c23⟩ := anAt_of (unhide H6).box
      have cX : y6.cell? ⟨wc.heap.size + 1, 0, none⟩ = some (.func (.func 20) #[] #[.pointer (some ⟨wc.heap.size, 0, none⟩), .pointer (some ⟨I, 0, none⟩)]) := cell_of_row _ _ 0 _ _ _ (unhide H6).txt
      go_wp2_with fail
      refine ((unhide H6).text 136 a.fl.csig ⟨by decide, by decide⟩ (by have := unhide HZ; unfold anZ at this; omega) (by have := unhide Z6; omega)).mono ?_
      rintro e y7 ⟨rfl, hs7, k7⟩
      have H7 := hide hs7; have B7 := hide ((unhide B6).trans (k7.mono (unhide HLE)))
      have Z7 := hide (inL_step (unhide Z6) (t := 136) (s := a.fl.csig) (M := 1048576) (by have := unhide HZ; unfold anZ at this; omega))
      clear hs7 k7
      clear c0 c1 c2 c3 c4 c5 c6 c7 c8 c9 c10 c11 c12 c13 c14 c15 c16 c17 c18 c19 c20 c21 c22 c23 cX
      obtain ⟨c0, c1, c2, c3, c4, c5, c6, c7, c8, c9, c10, c11, c12, c13, c14, c15, c16, c17, c18, c19, c20, c21, c22, c23⟩ := anAt_of (unhide H7).box
      have cX : y7.cell? ⟨wc.heap.size + 1, 0, none⟩ = some (.func (.func 20) #[] #[.pointer (some ⟨wc.heap.size, 0, none⟩), .pointer (some ⟨I, 0, none⟩)]) := cell_of_row _ _ 0 _ _ _ (unhide H7).txt
      go_wp2_with fail
      refine ((unhide H7).text 137 a.fl.crest ⟨by decide, by decide⟩ (by have := unhide HZ; unfold anZ at this; omega) (by have := unhide Z7; omega)).mono ?_
      rintro e y8 ⟨rfl, hs8, k8⟩
      have H8 := hide hs8; have B8 := hide ((unhide B7).trans (k8.mono (unhide HLE)))
      have Z8 := hide (inL_step (unhide Z7) (t := 137) (s := a.fl.crest) (M := 1048576) (by have := unhide HZ; unfold anZ at this; omega))
      clear hs8 k8
      go_wp2
      go_meet
      exact ⟨_, ef, _, rfl, unhide H8, unhide B8, by rw [unhide HF0]; exact (unhide HEND).1, fun h1 h2 => (unhide HEND).2 (by rw [← unhide HF0]; exact h1) h2, by have := unhide Z8; omega⟩
  case rest =>
  obtain ⟨far, late, L, rfl, hst9, hb9, hW, hL, hz9⟩ := hcut
  obtain ⟨hE, hS⟩ := end_same (unhide HD) hW hL
  have cF : _ = some (Value.bool far) := cell_of_row _ _ 0 _ _ _ hst9.far
  have cG : _ = some (Value.bool (longL L)) := cell_of_row _ _ 0 _ _ _ hst9.lng
  have cI : _ = some (Value.string (inL L)) := cell_of_row _ _ 0 _ _ _ hst9.inn
  have HE := hide hE; have HSS := hide hS; have HB9 := hide hb9
  have NO := hide (fun W => router_any 162 (inL L) W ⟨by decide, by decide⟩ hz9)
  clear hE hS hb9 hW hL hst9 hz9
  cases far with
  | true =>
    have HR := hide (And.intro ((unhide HSS).trans (by unfold endS; rfl)) ((unhide HE).trans (by unfold endE; rfl)))
    go_wp2
    go_ret2
    exact ⟨retPT (unhide HR).1.symm (unhide HR).2.symm, unhide HB9⟩
  | false =>
  by_cases hl : late = 0
  case neg =>
    have t1 : (late != 0) = true := by simpa using hl
    have HR := hide (And.intro ((unhide HSS).trans (by unfold endS; rw [if_neg (by decide), if_pos hl])) ((unhide HE).trans (by unfold endE; rw [if_neg (by decide), if_pos hl])))
    clear hl
    go_wp2
    go_ret2
    exact ⟨retPT (unhide HR).1.symm (unhide HR).2.symm, unhide HB9⟩
  subst hl
  cases hlg : longL L with
  | true =>
    have HR := hide (And.intro ((unhide HSS).trans (by unfold endS; rw [hlg]; try rfl)) ((unhide HE).trans (by unfold endE; rw [hlg]; try rfl)))
    rw [hlg] at cG
    clear hlg
    go_wp2
    go_ret2
    exact ⟨retPT (unhide HR).1.symm (unhide HR).2.symm, unhide HB9⟩
  | false =>
    have HR := hide (And.intro ((unhide HSS).trans (by unfold endS; rw [hlg]; try rfl)) ((unhide HE).trans (by unfold endE; rw [hlg]; try rfl)))
    rw [hlg] at cG
    clear hlg
    generalize inL L = tx at *
    go_wp2_with fail
    refine (unhide NO _).mono ?_
    rintro e z ⟨rfl, kz⟩
    have HZZ := hide (ext_callQ (unhide HB9) kz)
    clear kz
    go_wp2
    go_ret2
    exact ⟨retPT (unhide HR).1.symm (unhide HR).2.symm, unhide HZZ⟩
end Go.Proofs.YtfpglpefofcdeaaGreatDoor
