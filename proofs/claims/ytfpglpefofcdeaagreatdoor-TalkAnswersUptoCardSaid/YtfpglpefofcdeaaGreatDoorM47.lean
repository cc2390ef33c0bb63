/- A file read, by the document's own: where it is none. -/
import Derived.Test.YtfpglpefofcdeaaGreatDoorM35
import Derived.Test.YtfpglpefofcdeaaGreatDoorM27
import Derived.Test.YtfpglpefofcdeaaGreatDoorM24
namespace Go.Proofs.YtfpglpefofcdeaaGreatDoor
open Go.RowKit
set_option linter.unusedVariables false
set_option linter.unusedSimpArgs false
set_option maxRecDepth 100000

theorem part_to (t : ByteArray) (m : Nat) (h : 4 + m ≤ t.size) : t.extract 4 (4 + m) = (t.extract 4 t.size).extract 0 m := by
  apply eq_of_list
  rw [extract_list, extract_list, drop_extract, List.drop_zero]
  congr 1
  omega
theorem part_from (t : ByteArray) (m : Nat) (h : 4 + m ≤ t.size) : t.extract (4 + m) t.size = (t.extract 4 t.size).extract m (t.extract 4 t.size).size := by
  apply eq_of_list
  rw [drop_extract, drop_extract, drop_extract, List.drop_drop]
theorem slice_mid (t : ByteArray) (m : Nat) (h : 4 + m ≤ t.size) (wx : World) : (Instr.slice 9 (.string t) (some (.int .i64 4)) (some (.int .i64 (4 + (m : Int)))) none).run Tryz.prog wx = .ok (.string ((t.extract 4 t.size).extract 0 m)) wx := by
  have hx := run_slice_string (P := Tryz.prog) wx 9 t .i64 .i64 4 (4 + (m : Int)) Tryz.underlying9 (by omega) (by omega) (by omega)
  rw [show (4 + (m : Int)).toNat = 4 + m by omega, show (4 : Int).toNat = 4 from rfl, part_to t m h] at hx
  exact hx
theorem slice_end (t : ByteArray) (m : Nat) (h : 4 + m ≤ t.size) (wx : World) : (Instr.slice 9 (.string t) (some (.int .i64 (4 + (m : Int)))) none none).run Tryz.prog wx = .ok (.string ((t.extract 4 t.size).extract m (t.extract 4 t.size).size)) wx := by
  have hx := slice_from t (4 + m) h wx
  rw [part_from t m h] at hx
  rw [show (4 + (m : Int)) = ((4 + m : Nat) : Int) by omega]
  exact hx
/-- one thing at least is amiss with five parts -/
theorem five_bad {p0 p1 p2 p3 p4 : ByteArray} (h : fiveB [p0, p1, p2, p3, p4] = false) : p2.size < 16 ∨ (16 ≤ p2.size ∧ 127 < byteAt p2 0) ∨ (16 ≤ p2.size ∧ ¬ 127 < byteAt p2 0 ∧ 127 < byteAt p2 8) ∨ (16 ≤ p2.size ∧ ¬ 127 < byteAt p2 0 ∧ ¬ 127 < byteAt p2 8 ∧ p3.size ≠ 6) := by
  by_cases h1 : p2.size < 16
  · exact .inl h1
  · by_cases h2 : 127 < byteAt p2 0
    · exact .inr (.inl ⟨by omega, h2⟩)
    · by_cases h3 : 127 < byteAt p2 8
      · exact .inr (.inr (.inl ⟨by omega, h2, h3⟩))
      · by_cases h4 : p3.size ≠ 6
        · exact .inr (.inr (.inr ⟨by omega, h2, h3, h4⟩))
        · have : fiveB [p0, p1, p2, p3, p4] = true := by
            show (!decide (p2.size < 16) && !decide (127 < byteAt p2 0) && !decide (127 < byteAt p2 8) && !decide (p3.size ≠ 6)) = true
            rw [decide_eq_false h1, decide_eq_false h2, decide_eq_false h3, decide_eq_false h4]
            rfl
          rw [this] at h; cases h
set_option maxHeartbeats 4000000 in
theorem rfileOf_no (s : ByteArray) (w : World) (hs : s.size ≤ 65535) (h : ∀ l, cutG 65536 s = some l → fiveB l = false) :
    Calls Tryz.prog 31 #[.string s] w fun e w' => e = .returned (.tuple #[.agg (flC flZ), .bool false]) ∧ Below w.heap.size w w' := by
  obtain ⟨i0, hi, hz0, hz1, hz2⟩ := info_parts infoStrT
  obtain ⟨C, hC⟩ : ∃ C, C = cutG 65536 s := ⟨_, rfl⟩
  rw [← hC] at h
  obtain ⟨W1, hW1⟩ : ∃ W1, W1 = w.alloc (.cells #[.string ⟨#[]⟩, .slice none 0 0, .string ⟨#[]⟩, .string ⟨#[]⟩, .string ⟨#[]⟩, .string ⟨#[]⟩, .int .i64 0, .int .i64 0, .slice none 0 0, .int .i64 0, .int .i64 0, .int .i64 0, .slice none 0 0] 33) := ⟨_, rfl⟩
  have hB1 : Below w.heap.size w W1 := by rw [hW1]; exact (Below.refl _ _).alloc (Nat.le_refl _) _
  have hX1 : W1.heap[w.heap.size]? = some (.cells #[.string ⟨#[]⟩, .slice none 0 0, .string ⟨#[]⟩, .string ⟨#[]⟩, .string ⟨#[]⟩, .string ⟨#[]⟩, .int .i64 0, .int .i64 0, .slice none 0 0, .int .i64 0, .int .i64 0, .int .i64 0, .slice none 0 0] 33 (0, 0)) := by rw [hW1]; exact heap_alloc_new _ _
  have HX := hide (fun W (hb : Below W1.heap.size W1 W) => (hb.block _ (block_ltQ hX1)).trans hX1)
  have HCC := hide hC; have HH := hide h; have HB1 := hide hB1; have HW1 := hide hW1
  have HI := hide hi; have Z0 := hide hz0; have Z1 := hide hz1; have Z2 := hide hz2; have HSZ := hide hs
  clear hi hz0 hz1 hz2 hC hs h hB1 hX1 hW1
  go_enter Tryz.func31, Tryz.ntmps31
  go_upto_region 1 with fail
  rw [← unhide HW1]
  go_wp2
  go_loopw [4, 5] (fun lv sv wx => ∃ (t : ByteArray) (l : List ByteArray), sv = .string t ∧ t.size + 4 * l.length ≤ 65535 ∧ C = (cutG (65536 - l.length) t).map (l ++ ·) ∧ wx.ownsRow W1.heap.size 9 1 lv l.length (rowT l) ∧ Below W1.heap.size W1 wx) (fun _ sv _ => strLen sv)
  case atStart => exact ⟨s, [], rfl, by have := unhide HSZ; simpa using this, by rw [unhide HCC]; simp, World.ownsRow_nil _ _ _ _, Below.refl _ _⟩
  case round =>
    obtain ⟨t, l, rfl, hz, hTl, ho, hbw⟩ := hrel
    obtain ⟨k, hk⟩ : ∃ k, 65536 - l.length = k + 1 := ⟨65535 - l.length, by omega⟩
    rw [hk] at hTl
    have hx := unhide HX wr hbw
    by_cases h0 : t.size = 0
    · obtain rfl : t = ⟨#[]⟩ := eq_of_list (List.length_eq_zero_iff.1 (by rw [← size_list]; exact h0))
      rw [cutG_nil rfl] at hTl
      have hf : fiveB l = false := unhide HH l (by rw [hTl]; simp)
      have HXX := hide hx
      have HBZ := hide (setRow_belowT (g := w.heap.size) (cs := flC flZ) (belowTr (unhide HB1) hbw) (Nat.le_refl _))
      by_cases h5 : l.length = 5
      case neg =>
        have t5 : ((l.length : Int) != 5) = true := by simp; omega
        obtain ⟨ao, cap, rfl⟩ := slice_ownT ho
        clear ho hbw hx hTl hz hk h0 hf h5
        go_wp2_with (refine wpList_store_row rfl _ _ _ rfl w.heap.size (flC flZ) rfl rfl _ _ (unhide HXX) infoFl rfl (flC_one _) ?_)
        exact bodyPost_ret (v := .tuple #[.agg (flC flZ), .bool false]) (results_cell_tmpT rfl _ _ w.heap.size 33 (flC flZ) (0, 0) _ _ rfl rfl (setRow_heap _ _ _ _ _ _ (unhide HXX)) Tryz.underlying33 rfl infoFl) rfl ⟨rfl, unhide HBZ⟩
      obtain ⟨p0, p1, p2, p3, p4, rfl⟩ := flL_five h5
      rcases row_cellT ho with ⟨hn, _⟩ | ⟨g, cap, hv, hg, hc⟩
      · cases hn
      have hv : u4 = .slice (some ⟨g, 0, none⟩) 5 cap := hv
      subst hv
      have c2 : wr.cell? ⟨g, 2, none⟩ = some (.string p2) := hc 2 p2 rfl
      have c3 : wr.cell? ⟨g, 3, none⟩ = some (.string p3) := hc 3 p3 rfl
      have hcase := five_bad hf
      clear ho hbw hx hTl hz hk h0 hf h5 hc
      rcases hcase with h1 | ⟨h1, h2⟩ | ⟨h1, h2, h3⟩ | ⟨h1, h2, h3, h4⟩
      · have t1 : (p2.size : Int) < 16 := by omega
        clear h1
        go_wp2_with (refine wpList_store_row rfl _ _ _ rfl w.heap.size (flC flZ) rfl rfl _ _ (unhide HXX) infoFl rfl (flC_one _) ?_)
        exact bodyPost_ret (v := .tuple #[.agg (flC flZ), .bool false]) (results_cell_tmpT rfl _ _ w.heap.size 33 (flC flZ) (0, 0) _ _ rfl rfl (setRow_heap _ _ _ _ _ _ (unhide HXX)) Tryz.underlying33 rfl infoFl) rfl ⟨rfl, unhide HBZ⟩
      · have t1 : ¬ (p2.size : Int) < 16 := by omega
        have l0 : 0 < p2.size := by omega
        have g0 : ((p2[0]'l0).toNat : Int) = (byteAt p2 0 : Int) := get_byte p2 0 l0
        have t2 : (127 : Int) < (byteAt p2 0 : Int) := by omega
        generalize byteAt p2 0 = b0 at *
        have li : (16 : Int) ≤ (p2.size : Int) := by omega
        clear h1 h2
        go_wp2_with (refine wpList_store_row rfl _ _ _ rfl w.heap.size (flC flZ) rfl rfl _ _ (unhide HXX) infoFl rfl (flC_one _) ?_)
        exact bodyPost_ret (v := .tuple #[.agg (flC flZ), .bool false]) (results_cell_tmpT rfl _ _ w.heap.size 33 (flC flZ) (0, 0) _ _ rfl rfl (setRow_heap _ _ _ _ _ _ (unhide HXX)) Tryz.underlying33 rfl infoFl) rfl ⟨rfl, unhide HBZ⟩
      · have t1 : ¬ (p2.size : Int) < 16 := by omega
        have l0 : 0 < p2.size := by omega
        have l8 : 8 < p2.size := by omega
        have g0 : ((p2[0]'l0).toNat : Int) = (byteAt p2 0 : Int) := get_byte p2 0 l0
        have g8 : ((p2[8]'l8).toNat : Int) = (byteAt p2 8 : Int) := get_byte p2 8 l8
        have t2 : ¬ (127 : Int) < (byteAt p2 0 : Int) := by omega
        have t3 : (127 : Int) < (byteAt p2 8 : Int) := by omega
        generalize byteAt p2 0 = b0 at *
        generalize byteAt p2 8 = b8 at *
        have li : (16 : Int) ≤ (p2.size : Int) := by omega
        clear h1 h2 h3
        go_wp2_with (refine wpList_store_row rfl _ _ _ rfl w.heap.size (flC flZ) rfl rfl _ _ (unhide HXX) infoFl rfl (flC_one _) ?_)
        exact bodyPost_ret (v := .tuple #[.agg (flC flZ), .bool false]) (results_cell_tmpT rfl _ _ w.heap.size 33 (flC flZ) (0, 0) _ _ rfl rfl (setRow_heap _ _ _ _ _ _ (unhide HXX)) Tryz.underlying33 rfl infoFl) rfl ⟨rfl, unhide HBZ⟩
      · have t1 : ¬ (p2.size : Int) < 16 := by omega
        have l0 : 0 < p2.size := by omega
        have l8 : 8 < p2.size := by omega
        have g0 : ((p2[0]'l0).toNat : Int) = (byteAt p2 0 : Int) := get_byte p2 0 l0
        have g8 : ((p2[8]'l8).toNat : Int) = (byteAt p2 8 : Int) := get_byte p2 8 l8
        have t2 : ¬ (127 : Int) < (byteAt p2 0 : Int) := by omega
        have t3 : ¬ (127 : Int) < (byteAt p2 8 : Int) := by omega
        have t4 : ((p3.size : Int) != 6) = true := by simp; omega
        generalize byteAt p2 0 = b0 at *
        generalize byteAt p2 8 = b8 at *
        have li : (16 : Int) ≤ (p2.size : Int) := by omega
        clear h1 h2 h3 h4
        go_wp2_with (refine wpList_store_row rfl _ _ _ rfl w.heap.size (flC flZ) rfl rfl _ _ (unhide HXX) infoFl rfl (flC_one _) ?_)
        exact bodyPost_ret (v := .tuple #[.agg (flC flZ), .bool false]) (results_cell_tmpT rfl _ _ w.heap.size 33 (flC flZ) (0, 0) _ _ rfl rfl (setRow_heap _ _ _ _ _ _ (unhide HXX)) Tryz.underlying33 rfl infoFl) rfl ⟨rfl, unhide HBZ⟩
    · have hne : t ≠ ⟨#[]⟩ := fun e => h0 (by rw [e]; rfl)
      have hE : t.toList.isEmpty = false := by
        cases ht : t.toList with
        | nil => exact absurd (toList_injQ (ht.trans (by simp : ([] : List UInt8) = (⟨#[]⟩ : ByteArray).toList))) hne
        | cons _ _ => rfl
      have HXX := hide hx
      have HBZ := hide (setRow_belowT (g := w.heap.size) (cs := flC flZ) (belowTr (unhide HB1) hbw) (Nat.le_refl _))
      by_cases h4 : t.size < 4
      · have h4i : (t.size : Int) < 4 := by omega
        clear ho hbw hx hTl hz hk h0 h4
        go_wp2_with (refine wpList_store_row rfl _ _ _ rfl w.heap.size (flC flZ) rfl rfl _ _ (unhide HXX) infoFl rfl (flC_one _) ?_)
        exact bodyPost_ret (v := .tuple #[.agg (flC flZ), .bool false]) (results_cell_tmpT rfl _ _ w.heap.size 33 (flC flZ) (0, 0) _ _ rfl rfl (setRow_heap _ _ _ _ _ _ (unhide HXX)) Tryz.underlying33 rfl infoFl) rfl ⟨rfl, unhide HBZ⟩
      · have h4i : ¬ (t.size : Int) < 4 := by omega
        have h4j : 4 ≤ (t.size : Int) := by omega
        have hw4 : wrap64 ((t.size : Int) - 4) = (t.size : Int) - 4 := by first | (unfold wrap64; omega) | (simp [wrap64]; omega) | (simp [wrap64, IntKind.wrap, IntKind.bits, IntKind.signed]; omega)
        obtain ⟨p, hp⟩ : ∃ p, p = t.extract 0 4 := ⟨_, rfl⟩
        obtain ⟨r, hr⟩ : ∃ r, r = t.extract 4 t.size := ⟨_, rfl⟩
        have hps : p.size = 4 := by rw [hp, ByteArray.size_extract]; omega
        have hrs : r.size = t.size - 4 := by rw [hr, ByteArray.size_extract]; omega
        have hvp := valN_size (s := p) (k := 4) (by omega) (by decide)
        have N1 := hide (fun W => value_any p W (by omega) hvp)
        obtain ⟨m, hm⟩ : ∃ m, m = valN p.data.toList := ⟨_, rfl⟩
        rw [← hm] at N1 hvp
        have hrm : readV p = (m : Int) := by rw [readV_val (by omega) (by omega), hm]
        have hslA : ∀ wx, (Instr.slice 9 (.string t) none (some (.int .i64 4)) none).run Tryz.prog wx = .ok (.string p) wx := fun wx => by rw [hp]; exact run_slice_string_h (P := Tryz.prog) wx 9 t Tryz.underlying9 .i64 4 (by omega) (by omega)
        have hmb : (m : Int) ≤ 9223372036854775807 := by omega
        by_cases hn : (r.size : Int) < (m : Int)
        · have hn' : (t.size : Int) - 4 < (m : Int) := by omega
          clear ho hbw hx hTl hz hk h0 h4 hn hrm hp hr hps hrs hm hvp
          go_wp2_with fail
          refine (unhide N1 _).mono ?_
          rintro e w1 ⟨rfl, hw⟩
          have hw' := hw.symm
          subst hw'
          clear hw
          go_wp2_with (refine wpList_store_row rfl _ _ _ rfl w.heap.size (flC flZ) rfl rfl _ _ (unhide HXX) infoFl rfl (flC_one _) ?_)
          exact bodyPost_ret (v := .tuple #[.agg (flC flZ), .bool false]) (results_cell_tmpT rfl _ _ w.heap.size 33 (flC flZ) (0, 0) _ _ rfl rfl (setRow_heap _ _ _ _ _ _ (unhide HXX)) Tryz.underlying33 rfl infoFl) rfl ⟨rfl, unhide HBZ⟩
        · obtain ⟨x, hx2⟩ : ∃ x, x = r.extract 0 m := ⟨_, rfl⟩
          obtain ⟨r2, hr2⟩ : ∃ r2, r2 = r.extract m r.size := ⟨_, rfl⟩
          have hr2s : r2.size = r.size - m := by rw [hr2, ByteArray.size_extract]; omega
          have hcut : cutG (k + 1) t = (cutG k r2).map (x :: ·) := by
            rw [cutG_some h0 h4 (by rw [← hp, ← hr, hrm]; exact hn), ← hp, ← hr, hrm, hx2, hr2]
            rfl
          have hn' : ¬ (t.size : Int) - 4 < (m : Int) := by omega
          have hslC : ∀ wx, (Instr.slice 9 (.string t) (some (.int .i64 4)) (some (.int .i64 (4 + (m : Int)))) none).run Tryz.prog wx = .ok (.string x) wx := fun wx => by rw [hx2, hr]; exact slice_mid t m (by omega) wx
          have hslD : ∀ wx, (Instr.slice 9 (.string t) (some (.int .i64 (4 + (m : Int)))) none none).run Tryz.prog wx = .ok (.string r2) wx := fun wx => by rw [hr2, hr]; exact slice_end t m (by omega) wx
          have hTl2 : C = (cutG (65536 - (l ++ [x]).length) r2).map ((l ++ [x]) ++ ·) := by
            rw [hTl, hcut, List.length_append, List.length_singleton, show 65536 - (l.length + 1) = k by omega, Option.map_map]
            congr 1
            funext y
            simp
          have hz2 : r2.size + 4 * (l ++ [x]).length ≤ 65535 := by rw [List.length_append, List.length_singleton]; omega
          have hll : l.length ≤ 20000 := by omega
          have hms : r2.size < t.size := by omega
          have hm4 : (4 : Int) + (m : Int) ≤ 70000 := by omega
          have HT2 := hide hTl2; have HZ2 := hide hz2; have HLL := hide hll; have HMS := hide hms; have HO := hide ho; have HB := hide hbw
          clear ho hbw hTl hz hk hp hr hps hrs hm hvp hrm h0 h4 hx2 hr2 hr2s hcut hTl2 hz2 hll hms hx hn
          go_wp2_with fail
          refine (unhide N1 _).mono ?_
          rintro e w1 ⟨rfl, hw⟩
          have hw' := hw.symm
          subst hw'
          clear hw
          go_wp2_with fail
          refine (unhide N1 _).mono ?_
          rintro e w1 ⟨rfl, hw⟩
          have hw' := hw.symm
          subst hw'
          clear hw
          go_wp2_with (at_builtin; refine wpList_append_own _ rfl _ _ 83 rfl W1.heap.size 9 i0 (.string ⟨#[]⟩) 1 16 Tryz.underlying83 (unhide HI) (unhide Z0) (unhide Z1) (unhide Z2) rfl (by decide) _ _ _ rfl ((unhide HO).alloc _) ⟨wr.heap.size, 0, none⟩ 1 1 [.string x] rfl rfl (World.news_of_block (heap_alloc_new _ _)) ?c2 ?c3 ?c4 ?c5 ?_)
          try (case c2 => intro u hu; simp at hu; subst hu; rfl)
          try (case c3 => have := unhide HLL; unfold maxLen; omega)
          try (case c4 => have := unhide HLL; omega)
          try (case c5 => have := (unhide HB).size; simp; omega)
          intro v5 w5 hown5 hgrow5 _
          have ho5 : w5.ownsRow W1.heap.size 9 1 v5 (l ++ [x]).length (rowT (l ++ [x])) := by rw [rowT_snoc, List.length_append]; exact hown5
          have hb5 : Below W1.heap.size W1 w5 := ((unhide HB).alloc (unhide HB).size (.cells #[.string x] 9)).grown hgrow5 (by have := (unhide HB).size; simp; omega) (fun j hj => ((unhide HO).lt j hj).1)
          have HO5 := hide ho5; have HB5 := hide hb5
          clear ho5 hb5 hown5 hgrow5
          go_wp2
          go_roundw
          case rel => exact ⟨r2, l ++ [x], rfl, unhide HZ2, unhide HT2, unhide HO5, unhide HB5⟩
          case measure => exact unhide HMS
end Go.Proofs.YtfpglpefofcdeaaGreatDoor
