/- The reference: Command, the walk. -/
import Derived.Test.YtamamlpicookiahMS
namespace Go.Proofs.Ytamamlpicookiah
open Go.RowKit
set_option linter.unusedVariables false

set_option maxRecDepth 100000 in
set_option maxHeartbeats 4000000 in
theorem rcmdN1 (nm dg : ByteArray) (wn sh tr am : Int) (ca : Bool) (dy bt : Int) (no ex an od : ByteArray) (w : World) (hbk : nm.size + dg.size + no.size + ex.size + an.size + od.size ≤ 0x100000) (hbe : decide ((⟨0, nm, dg, wn, ⟨sh, tr, am, ca, dy, bt, no⟩, ex, an, od⟩ : XCommand) = zeroC) = false) :
    Calls Try.prog 5 #[.agg #[.int .i64 1, .string nm, .string dg, .int .i64 wn, .int .i64 sh, .int .i64 tr, .int .i64 am, .bool ca, .int .i64 dy, .int .i64 bt, .string no, .string ex, .string an, .string od]] w fun e w' => e = .returned (.tuple #[.string ⟨#[]⟩, .int .i64 1]) ∧ Below w.heap.size w w' := by
  have hne := fun w => neq_lit ⟨0, nm, dg, wn, ⟨sh, tr, am, ca, dy, bt, no⟩, ex, an, od⟩ zeroC (.agg #[.int .i64 0, .string nm, .string dg, .int .i64 wn, .int .i64 sh, .int .i64 tr, .int .i64 am, .bool ca, .int .i64 dy, .int .i64 bt, .string no, .string ex, .string an, .string od]) (.agg #[.int .i64 0, .string ⟨#[]⟩, .string ⟨#[]⟩, .int .i64 0, .int .i64 0, .int .i64 0, .int .i64 0, .bool false, .int .i64 0, .int .i64 0, .string ⟨#[]⟩, .string ⟨#[]⟩, .string ⟨#[]⟩, .string ⟨#[]⟩]) rfl rfl w
  rw [hbe, Bool.not_false] at hne
  clear hbe
  have n1 := fun b cap w c0 => bytes1T 1 (by decide) b cap w c0
  have n2 := fun w => ritem_any 128 (strOfNums [1]) w (by decide) (by rw [strOfNums_size]; simp)
  have n3 := fun b cap w (c0 : w.cell? ⟨b, 0, none⟩ = some (.int .i64 wn)) => bytes_one wn b 0 cap w (World.block_lt_of_cell? w _ c0) c0
  have n4 := fun w => ritem_any 131 (strOfNums [lowByte wn]) w (by decide) (by rw [strOfNums_size]; simp)
  have zi := itS_size 128 (strOfNums [1])
  have zw := itS_size 131 (strOfNums [lowByte wn])
  have zn : (strOfNums [1]).size = 1 := by rw [strOfNums_size]; rfl
  have zl : (strOfNums [lowByte wn]).size = 1 := by rw [strOfNums_size]; rfl
  have ze : lenLen 1 = 1 := rfl
  rw [zn, ze] at zi
  rw [zl, ze] at zw
  generalize itS 128 (strOfNums [1]) = a1 at *
  generalize itS 131 (strOfNums [lowByte wn]) = a2 at *
  generalize strOfNums [1] = p1 at *
  generalize strOfNums [lowByte wn] = p2 at *
  have N1 := hide n1; have N2 := hide n2; have N3 := hide n3; have N4 := hide n4
  clear n1 n2 n3 n4 zi zw zn zl ze
  have HB0 := hide ((Below.refl w.heap.size w).alloc (Nat.le_refl _) (.cells #[.int .i64 1, .string nm, .string dg, .int .i64 wn, .int .i64 sh, .int .i64 tr, .int .i64 am, .bool ca, .int .i64 dy, .int .i64 bt, .string no, .string ex, .string an, .string od] 25))
  go_enter Try.func5, Try.ntmps5
  go_wp2_with fail
  refine (unhide N1 _ _ _ (new_cellQ (by simp) rfl)).mono ?_
  rintro e w1 ⟨rfl, hb1⟩
  have hk0 := hb1.block w.heap.size (by simp; omega)
  have HK1 : Hid (w1.heap[w.heap.size]? = some (.cells #[.int .i64 1, .string nm, .string dg, .int .i64 wn, .int .i64 sh, .int .i64 tr, .int .i64 am, .bool ca, .int .i64 dy, .int .i64 bt, .string no, .string ex, .string an, .string od] 25)) := hide (by rw [hk0]; exact (two_newP w _ _).1)
  have HB1 := hide (ext_callQ (ext_allocQ (unhide HB0) _) hb1)
  clear hb1 hk0 HB0
  go_wp2_with fail
  refine (unhide N2 _).mono ?_
  rintro e w2 ⟨rfl, hb2⟩
  have HK2 := hide ((hb2.block _ (block_ltQ (unhide HK1))).trans (unhide HK1))
  have HB2 := hide (ext_callQ (unhide HB1) hb2)
  have y0 : w2.cell? ⟨w.heap.size, 0, none⟩ = some (.int .i64 1) := cell_of_row _ _ 0 _ _ _ (unhide HK2)
  have y1 : w2.cell? ⟨w.heap.size, 1, none⟩ = some (.string nm) := cell_of_row _ _ 1 _ _ _ (unhide HK2)
  have y2 : w2.cell? ⟨w.heap.size, 2, none⟩ = some (.string dg) := cell_of_row _ _ 2 _ _ _ (unhide HK2)
  have y3 : w2.cell? ⟨w.heap.size, 3, none⟩ = some (.int .i64 wn) := cell_of_row _ _ 3 _ _ _ (unhide HK2)
  have y4 : w2.cell? ⟨w.heap.size, 4, none⟩ = some (.int .i64 sh) := cell_of_row _ _ 4 _ _ _ (unhide HK2)
  have y5 : w2.cell? ⟨w.heap.size, 5, none⟩ = some (.int .i64 tr) := cell_of_row _ _ 5 _ _ _ (unhide HK2)
  have y6 : w2.cell? ⟨w.heap.size, 6, none⟩ = some (.int .i64 am) := cell_of_row _ _ 6 _ _ _ (unhide HK2)
  have y7 : w2.cell? ⟨w.heap.size, 7, none⟩ = some (.bool ca) := cell_of_row _ _ 7 _ _ _ (unhide HK2)
  have y8 : w2.cell? ⟨w.heap.size, 8, none⟩ = some (.int .i64 dy) := cell_of_row _ _ 8 _ _ _ (unhide HK2)
  have y9 : w2.cell? ⟨w.heap.size, 9, none⟩ = some (.int .i64 bt) := cell_of_row _ _ 9 _ _ _ (unhide HK2)
  have y10 : w2.cell? ⟨w.heap.size, 10, none⟩ = some (.string no) := cell_of_row _ _ 10 _ _ _ (unhide HK2)
  have y11 : w2.cell? ⟨w.heap.size, 11, none⟩ = some (.string ex) := cell_of_row _ _ 11 _ _ _ (unhide HK2)
  have y12 : w2.cell? ⟨w.heap.size, 12, none⟩ = some (.string an) := cell_of_row _ _ 12 _ _ _ (unhide HK2)
  have y13 : w2.cell? ⟨w.heap.size, 13, none⟩ = some (.string od) := cell_of_row _ _ 13 _ _ _ (unhide HK2)
  have hlt2 : w.heap.size < w2.heap.size := block_ltQ (unhide HK2)
  have HKZ := hide (alloc_keepQT (o' := .cells #[.int .i64 0, .string nm, .string dg, .int .i64 wn, .int .i64 sh, .int .i64 tr, .int .i64 am, .bool ca, .int .i64 dy, .int .i64 bt, .string no, .string ex, .string an, .string od] 25) (unhide HK2))
  have x3 : (w2.alloc (.cells #[.int .i64 0, .string nm, .string dg, .int .i64 wn, .int .i64 sh, .int .i64 tr, .int .i64 am, .bool ca, .int .i64 dy, .int .i64 bt, .string no, .string ex, .string an, .string od] 25)).cell? ⟨w.heap.size, 3, none⟩ = some (.int .i64 wn) := cell_of_row _ _ 3 _ _ _ (unhide HKZ)
  have hne1 : ¬ w.heap.size = w2.heap.size := by omega
  have hne2 : ¬ w2.heap.size = w.heap.size := by omega
  clear hb2 HK1 HB1 N1 N2
  go_wp2_with fail
  refine (unhide N3 _ _ _ (new_cellQ (by simp) rfl)).mono ?_
  rintro e w3 ⟨rfl, hb3⟩
  have HK3 := hide ((hb3.block w.heap.size (by simp; omega)).trans (alloc_keepQT (unhide HKZ)))
  have HR3 : Hid (w3.heap[w2.heap.size]? = some (.cells #[.int .i64 0, .string nm, .string dg, .int .i64 wn, .int .i64 sh, .int .i64 tr, .int .i64 am, .bool ca, .int .i64 dy, .int .i64 bt, .string no, .string ex, .string an, .string od] 25)) := hide (by rw [hb3.block w2.heap.size (by simp; omega)]; exact (two_newP w2 _ _).1)
  have HB3 := hide (ext_callQ (ext_allocQ (ext_allocQ (unhide HB2) _) _) hb3)
  clear hb3 HKZ HB2 x3 y0 y1 y2 y3 y4 y5 y6 y7 y8 y9 y10 y11 y12 y13 HK2 N3
  go_wp2_with fail
  refine (unhide N4 _).mono ?_
  rintro e w4 ⟨rfl, hb4⟩
  have HK4 := hide ((hb4.block _ (block_ltQ (unhide HK3))).trans (unhide HK3))
  have HR4 := hide ((hb4.block _ (block_ltQ (unhide HR3))).trans (unhide HR3))
  have HB4 := hide (ext_callQ (unhide HB3) hb4)
  clear hb4 HK3 HR3 HB3 N4
  have y0 : w4.cell? ⟨w.heap.size, 0, none⟩ = some (.int .i64 1) := cell_of_row _ _ 0 _ _ _ (unhide HK4)
  have y1 : w4.cell? ⟨w.heap.size, 1, none⟩ = some (.string nm) := cell_of_row _ _ 1 _ _ _ (unhide HK4)
  have y2 : w4.cell? ⟨w.heap.size, 2, none⟩ = some (.string dg) := cell_of_row _ _ 2 _ _ _ (unhide HK4)
  have y3 : w4.cell? ⟨w.heap.size, 3, none⟩ = some (.int .i64 wn) := cell_of_row _ _ 3 _ _ _ (unhide HK4)
  have y4 : w4.cell? ⟨w.heap.size, 4, none⟩ = some (.int .i64 sh) := cell_of_row _ _ 4 _ _ _ (unhide HK4)
  have y5 : w4.cell? ⟨w.heap.size, 5, none⟩ = some (.int .i64 tr) := cell_of_row _ _ 5 _ _ _ (unhide HK4)
  have y6 : w4.cell? ⟨w.heap.size, 6, none⟩ = some (.int .i64 am) := cell_of_row _ _ 6 _ _ _ (unhide HK4)
  have y7 : w4.cell? ⟨w.heap.size, 7, none⟩ = some (.bool ca) := cell_of_row _ _ 7 _ _ _ (unhide HK4)
  have y8 : w4.cell? ⟨w.heap.size, 8, none⟩ = some (.int .i64 dy) := cell_of_row _ _ 8 _ _ _ (unhide HK4)
  have y9 : w4.cell? ⟨w.heap.size, 9, none⟩ = some (.int .i64 bt) := cell_of_row _ _ 9 _ _ _ (unhide HK4)
  have y10 : w4.cell? ⟨w.heap.size, 10, none⟩ = some (.string no) := cell_of_row _ _ 10 _ _ _ (unhide HK4)
  have y11 : w4.cell? ⟨w.heap.size, 11, none⟩ = some (.string ex) := cell_of_row _ _ 11 _ _ _ (unhide HK4)
  have y12 : w4.cell? ⟨w.heap.size, 12, none⟩ = some (.string an) := cell_of_row _ _ 12 _ _ _ (unhide HK4)
  have y13 : w4.cell? ⟨w.heap.size, 13, none⟩ = some (.string od) := cell_of_row _ _ 13 _ _ _ (unhide HK4)
  have r0 : w4.cell? ⟨w2.heap.size, 0, none⟩ = some (.int .i64 0) := cell_of_row _ _ 0 _ _ _ (unhide HR4)
  have r1 : w4.cell? ⟨w2.heap.size, 1, none⟩ = some (.string nm) := cell_of_row _ _ 1 _ _ _ (unhide HR4)
  have r2 : w4.cell? ⟨w2.heap.size, 2, none⟩ = some (.string dg) := cell_of_row _ _ 2 _ _ _ (unhide HR4)
  have r3 : w4.cell? ⟨w2.heap.size, 3, none⟩ = some (.int .i64 wn) := cell_of_row _ _ 3 _ _ _ (unhide HR4)
  have r4 : w4.cell? ⟨w2.heap.size, 4, none⟩ = some (.int .i64 sh) := cell_of_row _ _ 4 _ _ _ (unhide HR4)
  have r5 : w4.cell? ⟨w2.heap.size, 5, none⟩ = some (.int .i64 tr) := cell_of_row _ _ 5 _ _ _ (unhide HR4)
  have r6 : w4.cell? ⟨w2.heap.size, 6, none⟩ = some (.int .i64 am) := cell_of_row _ _ 6 _ _ _ (unhide HR4)
  have r7 : w4.cell? ⟨w2.heap.size, 7, none⟩ = some (.bool ca) := cell_of_row _ _ 7 _ _ _ (unhide HR4)
  have r8 : w4.cell? ⟨w2.heap.size, 8, none⟩ = some (.int .i64 dy) := cell_of_row _ _ 8 _ _ _ (unhide HR4)
  have r9 : w4.cell? ⟨w2.heap.size, 9, none⟩ = some (.int .i64 bt) := cell_of_row _ _ 9 _ _ _ (unhide HR4)
  have r10 : w4.cell? ⟨w2.heap.size, 10, none⟩ = some (.string no) := cell_of_row _ _ 10 _ _ _ (unhide HR4)
  have r11 : w4.cell? ⟨w2.heap.size, 11, none⟩ = some (.string ex) := cell_of_row _ _ 11 _ _ _ (unhide HR4)
  have r12 : w4.cell? ⟨w2.heap.size, 12, none⟩ = some (.string an) := cell_of_row _ _ 12 _ _ _ (unhide HR4)
  have r13 : w4.cell? ⟨w2.heap.size, 13, none⟩ = some (.string od) := cell_of_row _ _ 13 _ _ _ (unhide HR4)
  have rf : ∀ o, w4.frozen? ⟨w2.heap.size, o, none⟩ = false := fun o => frozen_of_row _ _ o _ _ (unhide HR4)
  go_wp2
  exact bodyPost_ret (v := .tuple #[.string ⟨#[]⟩, .int .i64 1]) (by simp [results, Try.results5, go_sem]) rfl ⟨rfl, unhide HB4⟩
set_option maxRecDepth 100000 in
set_option maxHeartbeats 4000000 in
theorem rcmdN2 (nm dg : ByteArray) (wn sh tr am : Int) (ca : Bool) (dy bt : Int) (no ex an od : ByteArray) (w : World) (hbk : nm.size + dg.size + no.size + ex.size + an.size + od.size ≤ 0x100000) (hbe : decide ((⟨0, ⟨#[]⟩, dg, wn, ⟨sh, tr, am, ca, dy, bt, no⟩, ex, an, od⟩ : XCommand) = zeroC) = false) :
    Calls Try.prog 5 #[.agg #[.int .i64 2, .string nm, .string dg, .int .i64 wn, .int .i64 sh, .int .i64 tr, .int .i64 am, .bool ca, .int .i64 dy, .int .i64 bt, .string no, .string ex, .string an, .string od]] w fun e w' => e = .returned (.tuple #[.string ⟨#[]⟩, .int .i64 1]) ∧ Below w.heap.size w w' := by
  have hne := fun w => neq_lit ⟨0, ⟨#[]⟩, dg, wn, ⟨sh, tr, am, ca, dy, bt, no⟩, ex, an, od⟩ zeroC (.agg #[.int .i64 0, .string ⟨#[]⟩, .string dg, .int .i64 wn, .int .i64 sh, .int .i64 tr, .int .i64 am, .bool ca, .int .i64 dy, .int .i64 bt, .string no, .string ex, .string an, .string od]) (.agg #[.int .i64 0, .string ⟨#[]⟩, .string ⟨#[]⟩, .int .i64 0, .int .i64 0, .int .i64 0, .int .i64 0, .bool false, .int .i64 0, .int .i64 0, .string ⟨#[]⟩, .string ⟨#[]⟩, .string ⟨#[]⟩, .string ⟨#[]⟩]) rfl rfl w
  rw [hbe, Bool.not_false] at hne
  clear hbe
  have n1 := fun b cap w c0 => bytes1T 2 (by decide) b cap w c0
  have n2 := fun w => ritem_any 128 (strOfNums [2]) w (by decide) (by rw [strOfNums_size]; simp)
  have n3 := fun b cap w (c0 : w.cell? ⟨b, 0, none⟩ = some (.int .i64 wn)) => bytes_one wn b 0 cap w (World.block_lt_of_cell? w _ c0) c0
  have n4 := fun w => ritem_any 131 (strOfNums [lowByte wn]) w (by decide) (by rw [strOfNums_size]; simp)
  have zi := itS_size 128 (strOfNums [2])
  have zw := itS_size 131 (strOfNums [lowByte wn])
  have zn : (strOfNums [2]).size = 1 := by rw [strOfNums_size]; rfl
  have zl : (strOfNums [lowByte wn]).size = 1 := by rw [strOfNums_size]; rfl
  have ze : lenLen 1 = 1 := rfl
  rw [zn, ze] at zi
  rw [zl, ze] at zw
  have n5 := fun w => ritem_any 129 nm w (by decide) (by omega)
  have z5 := itS_size 129 nm
  have l5 := lenLen_le nm.size
  generalize itS 128 (strOfNums [2]) = a1 at *
  generalize itS 131 (strOfNums [lowByte wn]) = a2 at *
  generalize strOfNums [2] = p1 at *
  generalize strOfNums [lowByte wn] = p2 at *
  generalize itS 129 nm = a3 at *
  have ha0 := fun w' => run_string_add_sum (P := Try.prog) w' a1 a3 (by first | omega | (simp only [ByteArray.size_append]; omega))
  have N1 := hide n1; have N2 := hide n2; have N3 := hide n3; have N4 := hide n4; have N5 := hide n5
  clear n1 n2 n3 n4 n5 zi zw zn zl ze z5 l5
  have HB0 := hide ((Below.refl w.heap.size w).alloc (Nat.le_refl _) (.cells #[.int .i64 2, .string nm, .string dg, .int .i64 wn, .int .i64 sh, .int .i64 tr, .int .i64 am, .bool ca, .int .i64 dy, .int .i64 bt, .string no, .string ex, .string an, .string od] 25))
  go_enter Try.func5, Try.ntmps5
  go_wp2_with fail
  refine (unhide N1 _ _ _ (new_cellQ (by simp) rfl)).mono ?_
  rintro e w1 ⟨rfl, hb1⟩
  have hk0 := hb1.block w.heap.size (by simp; omega)
  have HK1 : Hid (w1.heap[w.heap.size]? = some (.cells #[.int .i64 2, .string nm, .string dg, .int .i64 wn, .int .i64 sh, .int .i64 tr, .int .i64 am, .bool ca, .int .i64 dy, .int .i64 bt, .string no, .string ex, .string an, .string od] 25)) := hide (by rw [hk0]; exact (two_newP w _ _).1)
  have HB1 := hide (ext_callQ (ext_allocQ (unhide HB0) _) hb1)
  clear hb1 hk0 HB0
  go_wp2_with fail
  refine (unhide N2 _).mono ?_
  rintro e w2 ⟨rfl, hb2⟩
  have HK2 := hide ((hb2.block _ (block_ltQ (unhide HK1))).trans (unhide HK1))
  have HB2 := hide (ext_callQ (unhide HB1) hb2)
  have y0 : w2.cell? ⟨w.heap.size, 0, none⟩ = some (.int .i64 2) := cell_of_row _ _ 0 _ _ _ (unhide HK2)
  have y1 : w2.cell? ⟨w.heap.size, 1, none⟩ = some (.string nm) := cell_of_row _ _ 1 _ _ _ (unhide HK2)
  have y2 : w2.cell? ⟨w.heap.size, 2, none⟩ = some (.string dg) := cell_of_row _ _ 2 _ _ _ (unhide HK2)
  have y3 : w2.cell? ⟨w.heap.size, 3, none⟩ = some (.int .i64 wn) := cell_of_row _ _ 3 _ _ _ (unhide HK2)
  have y4 : w2.cell? ⟨w.heap.size, 4, none⟩ = some (.int .i64 sh) := cell_of_row _ _ 4 _ _ _ (unhide HK2)
  have y5 : w2.cell? ⟨w.heap.size, 5, none⟩ = some (.int .i64 tr) := cell_of_row _ _ 5 _ _ _ (unhide HK2)
  have y6 : w2.cell? ⟨w.heap.size, 6, none⟩ = some (.int .i64 am) := cell_of_row _ _ 6 _ _ _ (unhide HK2)
  have y7 : w2.cell? ⟨w.heap.size, 7, none⟩ = some (.bool ca) := cell_of_row _ _ 7 _ _ _ (unhide HK2)
  have y8 : w2.cell? ⟨w.heap.size, 8, none⟩ = some (.int .i64 dy) := cell_of_row _ _ 8 _ _ _ (unhide HK2)
  have y9 : w2.cell? ⟨w.heap.size, 9, none⟩ = some (.int .i64 bt) := cell_of_row _ _ 9 _ _ _ (unhide HK2)
  have y10 : w2.cell? ⟨w.heap.size, 10, none⟩ = some (.string no) := cell_of_row _ _ 10 _ _ _ (unhide HK2)
  have y11 : w2.cell? ⟨w.heap.size, 11, none⟩ = some (.string ex) := cell_of_row _ _ 11 _ _ _ (unhide HK2)
  have y12 : w2.cell? ⟨w.heap.size, 12, none⟩ = some (.string an) := cell_of_row _ _ 12 _ _ _ (unhide HK2)
  have y13 : w2.cell? ⟨w.heap.size, 13, none⟩ = some (.string od) := cell_of_row _ _ 13 _ _ _ (unhide HK2)
  have hlt2 : w.heap.size < w2.heap.size := block_ltQ (unhide HK2)
  have HKZ := hide (alloc_keepQT (o' := .cells #[.int .i64 0, .string nm, .string dg, .int .i64 wn, .int .i64 sh, .int .i64 tr, .int .i64 am, .bool ca, .int .i64 dy, .int .i64 bt, .string no, .string ex, .string an, .string od] 25) (unhide HK2))
  have x3 : (w2.alloc (.cells #[.int .i64 0, .string nm, .string dg, .int .i64 wn, .int .i64 sh, .int .i64 tr, .int .i64 am, .bool ca, .int .i64 dy, .int .i64 bt, .string no, .string ex, .string an, .string od] 25)).cell? ⟨w.heap.size, 3, none⟩ = some (.int .i64 wn) := cell_of_row _ _ 3 _ _ _ (unhide HKZ)
  have hne1 : ¬ w.heap.size = w2.heap.size := by omega
  have hne2 : ¬ w2.heap.size = w.heap.size := by omega
  clear hb2 HK1 HB1 N1 N2
  go_wp2_with fail
  refine (unhide N3 _ _ _ (new_cellQ (by simp) rfl)).mono ?_
  rintro e w3 ⟨rfl, hb3⟩
  have HK3 := hide ((hb3.block w.heap.size (by simp; omega)).trans (alloc_keepQT (unhide HKZ)))
  have HR3 : Hid (w3.heap[w2.heap.size]? = some (.cells #[.int .i64 0, .string nm, .string dg, .int .i64 wn, .int .i64 sh, .int .i64 tr, .int .i64 am, .bool ca, .int .i64 dy, .int .i64 bt, .string no, .string ex, .string an, .string od] 25)) := hide (by rw [hb3.block w2.heap.size (by simp; omega)]; exact (two_newP w2 _ _).1)
  have HB3 := hide (ext_callQ (ext_allocQ (ext_allocQ (unhide HB2) _) _) hb3)
  clear hb3 HKZ HB2 x3 y0 y1 y2 y3 y4 y5 y6 y7 y8 y9 y10 y11 y12 y13 HK2 N3
  go_wp2_with fail
  refine (unhide N4 _).mono ?_
  rintro e w4 ⟨rfl, hb4⟩
  have HK4 := hide ((hb4.block _ (block_ltQ (unhide HK3))).trans (unhide HK3))
  have HR4 := hide ((hb4.block _ (block_ltQ (unhide HR3))).trans (unhide HR3))
  have HB4 := hide (ext_callQ (unhide HB3) hb4)
  clear hb4 HK3 HR3 HB3 N4
  have y0 : w4.cell? ⟨w.heap.size, 0, none⟩ = some (.int .i64 2) := cell_of_row _ _ 0 _ _ _ (unhide HK4)
  have y1 : w4.cell? ⟨w.heap.size, 1, none⟩ = some (.string nm) := cell_of_row _ _ 1 _ _ _ (unhide HK4)
  have y2 : w4.cell? ⟨w.heap.size, 2, none⟩ = some (.string dg) := cell_of_row _ _ 2 _ _ _ (unhide HK4)
  have y3 : w4.cell? ⟨w.heap.size, 3, none⟩ = some (.int .i64 wn) := cell_of_row _ _ 3 _ _ _ (unhide HK4)
  have y4 : w4.cell? ⟨w.heap.size, 4, none⟩ = some (.int .i64 sh) := cell_of_row _ _ 4 _ _ _ (unhide HK4)
  have y5 : w4.cell? ⟨w.heap.size, 5, none⟩ = some (.int .i64 tr) := cell_of_row _ _ 5 _ _ _ (unhide HK4)
  have y6 : w4.cell? ⟨w.heap.size, 6, none⟩ = some (.int .i64 am) := cell_of_row _ _ 6 _ _ _ (unhide HK4)
  have y7 : w4.cell? ⟨w.heap.size, 7, none⟩ = some (.bool ca) := cell_of_row _ _ 7 _ _ _ (unhide HK4)
  have y8 : w4.cell? ⟨w.heap.size, 8, none⟩ = some (.int .i64 dy) := cell_of_row _ _ 8 _ _ _ (unhide HK4)
  have y9 : w4.cell? ⟨w.heap.size, 9, none⟩ = some (.int .i64 bt) := cell_of_row _ _ 9 _ _ _ (unhide HK4)
  have y10 : w4.cell? ⟨w.heap.size, 10, none⟩ = some (.string no) := cell_of_row _ _ 10 _ _ _ (unhide HK4)
  have y11 : w4.cell? ⟨w.heap.size, 11, none⟩ = some (.string ex) := cell_of_row _ _ 11 _ _ _ (unhide HK4)
  have y12 : w4.cell? ⟨w.heap.size, 12, none⟩ = some (.string an) := cell_of_row _ _ 12 _ _ _ (unhide HK4)
  have y13 : w4.cell? ⟨w.heap.size, 13, none⟩ = some (.string od) := cell_of_row _ _ 13 _ _ _ (unhide HK4)
  have r0 : w4.cell? ⟨w2.heap.size, 0, none⟩ = some (.int .i64 0) := cell_of_row _ _ 0 _ _ _ (unhide HR4)
  have r1 : w4.cell? ⟨w2.heap.size, 1, none⟩ = some (.string nm) := cell_of_row _ _ 1 _ _ _ (unhide HR4)
  have r2 : w4.cell? ⟨w2.heap.size, 2, none⟩ = some (.string dg) := cell_of_row _ _ 2 _ _ _ (unhide HR4)
  have r3 : w4.cell? ⟨w2.heap.size, 3, none⟩ = some (.int .i64 wn) := cell_of_row _ _ 3 _ _ _ (unhide HR4)
  have r4 : w4.cell? ⟨w2.heap.size, 4, none⟩ = some (.int .i64 sh) := cell_of_row _ _ 4 _ _ _ (unhide HR4)
  have r5 : w4.cell? ⟨w2.heap.size, 5, none⟩ = some (.int .i64 tr) := cell_of_row _ _ 5 _ _ _ (unhide HR4)
  have r6 : w4.cell? ⟨w2.heap.size, 6, none⟩ = some (.int .i64 am) := cell_of_row _ _ 6 _ _ _ (unhide HR4)
  have r7 : w4.cell? ⟨w2.heap.size, 7, none⟩ = some (.bool ca) := cell_of_row _ _ 7 _ _ _ (unhide HR4)
  have r8 : w4.cell? ⟨w2.heap.size, 8, none⟩ = some (.int .i64 dy) := cell_of_row _ _ 8 _ _ _ (unhide HR4)
  have r9 : w4.cell? ⟨w2.heap.size, 9, none⟩ = some (.int .i64 bt) := cell_of_row _ _ 9 _ _ _ (unhide HR4)
  have r10 : w4.cell? ⟨w2.heap.size, 10, none⟩ = some (.string no) := cell_of_row _ _ 10 _ _ _ (unhide HR4)
  have r11 : w4.cell? ⟨w2.heap.size, 11, none⟩ = some (.string ex) := cell_of_row _ _ 11 _ _ _ (unhide HR4)
  have r12 : w4.cell? ⟨w2.heap.size, 12, none⟩ = some (.string an) := cell_of_row _ _ 12 _ _ _ (unhide HR4)
  have r13 : w4.cell? ⟨w2.heap.size, 13, none⟩ = some (.string od) := cell_of_row _ _ 13 _ _ _ (unhide HR4)
  have rf : ∀ o, w4.frozen? ⟨w2.heap.size, o, none⟩ = false := fun o => frozen_of_row _ _ o _ _ (unhide HR4)
  go_wp2_with fail
  refine (unhide N5 _).mono ?_
  rintro e w5 ⟨rfl, hb5⟩
  have HK5 : Hid (w5.heap[w.heap.size]? = some (.cells #[.int .i64 2, .string nm, .string dg, .int .i64 wn, .int .i64 sh, .int .i64 tr, .int .i64 am, .bool ca, .int .i64 dy, .int .i64 bt, .string no, .string ex, .string an, .string od] 25)) := hide ((hb5.block _ (block_ltQ ((Below.heap_setCell _ _ _ _ (by show w.heap.size ≠ w2.heap.size; omega)).trans (unhide HK4)))).trans ((Below.heap_setCell _ _ _ _ (by show w.heap.size ≠ w2.heap.size; omega)).trans (unhide HK4)))
  have HR5 : Hid (w5.heap[w2.heap.size]? = some (.cells #[.int .i64 0, .string ⟨#[]⟩, .string dg, .int .i64 wn, .int .i64 sh, .int .i64 tr, .int .i64 am, .bool ca, .int .i64 dy, .int .i64 bt, .string no, .string ex, .string an, .string od] 25)) := hide ((hb5.block _ (block_ltQ (set_rowQ (j := 1) (v := .string ⟨#[]⟩) (unhide HR4)))).trans ((set_rowQ (j := 1) (v := .string ⟨#[]⟩) (unhide HR4)).trans rfl))
  have HB5 := hide (ext_callQ ((unhide HB4).setCell (p := ⟨w2.heap.size, 1, none⟩) (Nat.le_of_lt hlt2) (.string ⟨#[]⟩)) hb5)
  clear hb5 HK4 HR4 HB4 y0 r0 y1 r1 y2 r2 y3 r3 y4 r4 y5 r5 y6 r6 y7 r7 y8 r8 y9 r9 y10 r10 y11 r11 y12 r12 y13 r13 rf
  have y0 : w5.cell? ⟨w.heap.size, 0, none⟩ = some (.int .i64 2) := cell_of_row _ _ 0 _ _ _ (unhide HK5)
  have y1 : w5.cell? ⟨w.heap.size, 1, none⟩ = some (.string nm) := cell_of_row _ _ 1 _ _ _ (unhide HK5)
  have y2 : w5.cell? ⟨w.heap.size, 2, none⟩ = some (.string dg) := cell_of_row _ _ 2 _ _ _ (unhide HK5)
  have y3 : w5.cell? ⟨w.heap.size, 3, none⟩ = some (.int .i64 wn) := cell_of_row _ _ 3 _ _ _ (unhide HK5)
  have y4 : w5.cell? ⟨w.heap.size, 4, none⟩ = some (.int .i64 sh) := cell_of_row _ _ 4 _ _ _ (unhide HK5)
  have y5 : w5.cell? ⟨w.heap.size, 5, none⟩ = some (.int .i64 tr) := cell_of_row _ _ 5 _ _ _ (unhide HK5)
  have y6 : w5.cell? ⟨w.heap.size, 6, none⟩ = some (.int .i64 am) := cell_of_row _ _ 6 _ _ _ (unhide HK5)
  have y7 : w5.cell? ⟨w.heap.size, 7, none⟩ = some (.bool ca) := cell_of_row _ _ 7 _ _ _ (unhide HK5)
  have y8 : w5.cell? ⟨w.heap.size, 8, none⟩ = some (.int .i64 dy) := cell_of_row _ _ 8 _ _ _ (unhide HK5)
  have y9 : w5.cell? ⟨w.heap.size, 9, none⟩ = some (.int .i64 bt) := cell_of_row _ _ 9 _ _ _ (unhide HK5)
  have y10 : w5.cell? ⟨w.heap.size, 10, none⟩ = some (.string no) := cell_of_row _ _ 10 _ _ _ (unhide HK5)
  have y11 : w5.cell? ⟨w.heap.size, 11, none⟩ = some (.string ex) := cell_of_row _ _ 11 _ _ _ (unhide HK5)
  have y12 : w5.cell? ⟨w.heap.size, 12, none⟩ = some (.string an) := cell_of_row _ _ 12 _ _ _ (unhide HK5)
  have y13 : w5.cell? ⟨w.heap.size, 13, none⟩ = some (.string od) := cell_of_row _ _ 13 _ _ _ (unhide HK5)
  have r0 : w5.cell? ⟨w2.heap.size, 0, none⟩ = some (.int .i64 0) := cell_of_row _ _ 0 _ _ _ (unhide HR5)
  have r1 : w5.cell? ⟨w2.heap.size, 1, none⟩ = some (.string ⟨#[]⟩) := cell_of_row _ _ 1 _ _ _ (unhide HR5)
  have r2 : w5.cell? ⟨w2.heap.size, 2, none⟩ = some (.string dg) := cell_of_row _ _ 2 _ _ _ (unhide HR5)
  have r3 : w5.cell? ⟨w2.heap.size, 3, none⟩ = some (.int .i64 wn) := cell_of_row _ _ 3 _ _ _ (unhide HR5)
  have r4 : w5.cell? ⟨w2.heap.size, 4, none⟩ = some (.int .i64 sh) := cell_of_row _ _ 4 _ _ _ (unhide HR5)
  have r5 : w5.cell? ⟨w2.heap.size, 5, none⟩ = some (.int .i64 tr) := cell_of_row _ _ 5 _ _ _ (unhide HR5)
  have r6 : w5.cell? ⟨w2.heap.size, 6, none⟩ = some (.int .i64 am) := cell_of_row _ _ 6 _ _ _ (unhide HR5)
  have r7 : w5.cell? ⟨w2.heap.size, 7, none⟩ = some (.bool ca) := cell_of_row _ _ 7 _ _ _ (unhide HR5)
  have r8 : w5.cell? ⟨w2.heap.size, 8, none⟩ = some (.int .i64 dy) := cell_of_row _ _ 8 _ _ _ (unhide HR5)
  have r9 : w5.cell? ⟨w2.heap.size, 9, none⟩ = some (.int .i64 bt) := cell_of_row _ _ 9 _ _ _ (unhide HR5)
  have r10 : w5.cell? ⟨w2.heap.size, 10, none⟩ = some (.string no) := cell_of_row _ _ 10 _ _ _ (unhide HR5)
  have r11 : w5.cell? ⟨w2.heap.size, 11, none⟩ = some (.string ex) := cell_of_row _ _ 11 _ _ _ (unhide HR5)
  have r12 : w5.cell? ⟨w2.heap.size, 12, none⟩ = some (.string an) := cell_of_row _ _ 12 _ _ _ (unhide HR5)
  have r13 : w5.cell? ⟨w2.heap.size, 13, none⟩ = some (.string od) := cell_of_row _ _ 13 _ _ _ (unhide HR5)
  have rf : ∀ o, w5.frozen? ⟨w2.heap.size, o, none⟩ = false := fun o => frozen_of_row _ _ o _ _ (unhide HR5)
  go_wp2
  exact bodyPost_ret (v := .tuple #[.string ⟨#[]⟩, .int .i64 1]) (by simp [results, Try.results5, go_sem]) rfl ⟨rfl, unhide HB5⟩
set_option maxRecDepth 100000 in
set_option maxHeartbeats 4000000 in
theorem rcmdN3 (nm dg : ByteArray) (wn sh tr am : Int) (ca : Bool) (dy bt : Int) (no ex an od : ByteArray) (w : World) (hbk : nm.size + dg.size + no.size + ex.size + an.size + od.size ≤ 0x100000) (hbe : decide ((⟨0, nm, dg, wn, ⟨sh, tr, am, ca, dy, bt, no⟩, ex, an, od⟩ : XCommand) = zeroC) = false) :
    Calls Try.prog 5 #[.agg #[.int .i64 3, .string nm, .string dg, .int .i64 wn, .int .i64 sh, .int .i64 tr, .int .i64 am, .bool ca, .int .i64 dy, .int .i64 bt, .string no, .string ex, .string an, .string od]] w fun e w' => e = .returned (.tuple #[.string ⟨#[]⟩, .int .i64 1]) ∧ Below w.heap.size w w' := by
  have hne := fun w => neq_lit ⟨0, nm, dg, wn, ⟨sh, tr, am, ca, dy, bt, no⟩, ex, an, od⟩ zeroC (.agg #[.int .i64 0, .string nm, .string dg, .int .i64 wn, .int .i64 sh, .int .i64 tr, .int .i64 am, .bool ca, .int .i64 dy, .int .i64 bt, .string no, .string ex, .string an, .string od]) (.agg #[.int .i64 0, .string ⟨#[]⟩, .string ⟨#[]⟩, .int .i64 0, .int .i64 0, .int .i64 0, .int .i64 0, .bool false, .int .i64 0, .int .i64 0, .string ⟨#[]⟩, .string ⟨#[]⟩, .string ⟨#[]⟩, .string ⟨#[]⟩]) rfl rfl w
  rw [hbe, Bool.not_false] at hne
  clear hbe
  have n1 := fun b cap w c0 => bytes1T 3 (by decide) b cap w c0
  have n2 := fun w => ritem_any 128 (strOfNums [3]) w (by decide) (by rw [strOfNums_size]; simp)
  have n3 := fun b cap w (c0 : w.cell? ⟨b, 0, none⟩ = some (.int .i64 wn)) => bytes_one wn b 0 cap w (World.block_lt_of_cell? w _ c0) c0
  have n4 := fun w => ritem_any 131 (strOfNums [lowByte wn]) w (by decide) (by rw [strOfNums_size]; simp)
  have zi := itS_size 128 (strOfNums [3])
  have zw := itS_size 131 (strOfNums [lowByte wn])
  have zn : (strOfNums [3]).size = 1 := by rw [strOfNums_size]; rfl
  have zl : (strOfNums [lowByte wn]).size = 1 := by rw [strOfNums_size]; rfl
  have ze : lenLen 1 = 1 := rfl
  rw [zn, ze] at zi
  rw [zl, ze] at zw
  generalize itS 128 (strOfNums [3]) = a1 at *
  generalize itS 131 (strOfNums [lowByte wn]) = a2 at *
  generalize strOfNums [3] = p1 at *
  generalize strOfNums [lowByte wn] = p2 at *
  have N1 := hide n1; have N2 := hide n2; have N3 := hide n3; have N4 := hide n4
  clear n1 n2 n3 n4 zi zw zn zl ze
  have HB0 := hide ((Below.refl w.heap.size w).alloc (Nat.le_refl _) (.cells #[.int .i64 3, .string nm, .string dg, .int .i64 wn, .int .i64 sh, .int .i64 tr, .int .i64 am, .bool ca, .int .i64 dy, .int .i64 bt, .string no, .string ex, .string an, .string od] 25))
  go_enter Try.func5, Try.ntmps5
  go_wp2_with fail
  refine (unhide N1 _ _ _ (new_cellQ (by simp) rfl)).mono ?_
  rintro e w1 ⟨rfl, hb1⟩
  have hk0 := hb1.block w.heap.size (by simp; omega)
  have HK1 : Hid (w1.heap[w.heap.size]? = some (.cells #[.int .i64 3, .string nm, .string dg, .int .i64 wn, .int .i64 sh, .int .i64 tr, .int .i64 am, .bool ca, .int .i64 dy, .int .i64 bt, .string no, .string ex, .string an, .string od] 25)) := hide (by rw [hk0]; exact (two_newP w _ _).1)
  have HB1 := hide (ext_callQ (ext_allocQ (unhide HB0) _) hb1)
  clear hb1 hk0 HB0
  go_wp2_with fail
  refine (unhide N2 _).mono ?_
  rintro e w2 ⟨rfl, hb2⟩
  have HK2 := hide ((hb2.block _ (block_ltQ (unhide HK1))).trans (unhide HK1))
  have HB2 := hide (ext_callQ (unhide HB1) hb2)
  have y0 : w2.cell? ⟨w.heap.size, 0, none⟩ = some (.int .i64 3) := cell_of_row _ _ 0 _ _ _ (unhide HK2)
  have y1 : w2.cell? ⟨w.heap.size, 1, none⟩ = some (.string nm) := cell_of_row _ _ 1 _ _ _ (unhide HK2)
  have y2 : w2.cell? ⟨w.heap.size, 2, none⟩ = some (.string dg) := cell_of_row _ _ 2 _ _ _ (unhide HK2)
  have y3 : w2.cell? ⟨w.heap.size, 3, none⟩ = some (.int .i64 wn) := cell_of_row _ _ 3 _ _ _ (unhide HK2)
  have y4 : w2.cell? ⟨w.heap.size, 4, none⟩ = some (.int .i64 sh) := cell_of_row _ _ 4 _ _ _ (unhide HK2)
  have y5 : w2.cell? ⟨w.heap.size, 5, none⟩ = some (.int .i64 tr) := cell_of_row _ _ 5 _ _ _ (unhide HK2)
  have y6 : w2.cell? ⟨w.heap.size, 6, none⟩ = some (.int .i64 am) := cell_of_row _ _ 6 _ _ _ (unhide HK2)
  have y7 : w2.cell? ⟨w.heap.size, 7, none⟩ = some (.bool ca) := cell_of_row _ _ 7 _ _ _ (unhide HK2)
  have y8 : w2.cell? ⟨w.heap.size, 8, none⟩ = some (.int .i64 dy) := cell_of_row _ _ 8 _ _ _ (unhide HK2)
  have y9 : w2.cell? ⟨w.heap.size, 9, none⟩ = some (.int .i64 bt) := cell_of_row _ _ 9 _ _ _ (unhide HK2)
  have y10 : w2.cell? ⟨w.heap.size, 10, none⟩ = some (.string no) := cell_of_row _ _ 10 _ _ _ (unhide HK2)
  have y11 : w2.cell? ⟨w.heap.size, 11, none⟩ = some (.string ex) := cell_of_row _ _ 11 _ _ _ (unhide HK2)
  have y12 : w2.cell? ⟨w.heap.size, 12, none⟩ = some (.string an) := cell_of_row _ _ 12 _ _ _ (unhide HK2)
  have y13 : w2.cell? ⟨w.heap.size, 13, none⟩ = some (.string od) := cell_of_row _ _ 13 _ _ _ (unhide HK2)
  have hlt2 : w.heap.size < w2.heap.size := block_ltQ (unhide HK2)
  have HKZ := hide (alloc_keepQT (o' := .cells #[.int .i64 0, .string nm, .string dg, .int .i64 wn, .int .i64 sh, .int .i64 tr, .int .i64 am, .bool ca, .int .i64 dy, .int .i64 bt, .string no, .string ex, .string an, .string od] 25) (unhide HK2))
  have x3 : (w2.alloc (.cells #[.int .i64 0, .string nm, .string dg, .int .i64 wn, .int .i64 sh, .int .i64 tr, .int .i64 am, .bool ca, .int .i64 dy, .int .i64 bt, .string no, .string ex, .string an, .string od] 25)).cell? ⟨w.heap.size, 3, none⟩ = some (.int .i64 wn) := cell_of_row _ _ 3 _ _ _ (unhide HKZ)
  have hne1 : ¬ w.heap.size = w2.heap.size := by omega
  have hne2 : ¬ w2.heap.size = w.heap.size := by omega
  clear hb2 HK1 HB1 N1 N2
  go_wp2_with fail
  refine (unhide N3 _ _ _ (new_cellQ (by simp) rfl)).mono ?_
  rintro e w3 ⟨rfl, hb3⟩
  have HK3 := hide ((hb3.block w.heap.size (by simp; omega)).trans (alloc_keepQT (unhide HKZ)))
  have HR3 : Hid (w3.heap[w2.heap.size]? = some (.cells #[.int .i64 0, .string nm, .string dg, .int .i64 wn, .int .i64 sh, .int .i64 tr, .int .i64 am, .bool ca, .int .i64 dy, .int .i64 bt, .string no, .string ex, .string an, .string od] 25)) := hide (by rw [hb3.block w2.heap.size (by simp; omega)]; exact (two_newP w2 _ _).1)
  have HB3 := hide (ext_callQ (ext_allocQ (ext_allocQ (unhide HB2) _) _) hb3)
  clear hb3 HKZ HB2 x3 y0 y1 y2 y3 y4 y5 y6 y7 y8 y9 y10 y11 y12 y13 HK2 N3
  go_wp2_with fail
  refine (unhide N4 _).mono ?_
  rintro e w4 ⟨rfl, hb4⟩
  have HK4 := hide ((hb4.block _ (block_ltQ (unhide HK3))).trans (unhide HK3))
  have HR4 := hide ((hb4.block _ (block_ltQ (unhide HR3))).trans (unhide HR3))
  have HB4 := hide (ext_callQ (unhide HB3) hb4)
  clear hb4 HK3 HR3 HB3 N4
  have y0 : w4.cell? ⟨w.heap.size, 0, none⟩ = some (.int .i64 3) := cell_of_row _ _ 0 _ _ _ (unhide HK4)
  have y1 : w4.cell? ⟨w.heap.size, 1, none⟩ = some (.string nm) := cell_of_row _ _ 1 _ _ _ (unhide HK4)
  have y2 : w4.cell? ⟨w.heap.size, 2, none⟩ = some (.string dg) := cell_of_row _ _ 2 _ _ _ (unhide HK4)
  have y3 : w4.cell? ⟨w.heap.size, 3, none⟩ = some (.int .i64 wn) := cell_of_row _ _ 3 _ _ _ (unhide HK4)
  have y4 : w4.cell? ⟨w.heap.size, 4, none⟩ = some (.int .i64 sh) := cell_of_row _ _ 4 _ _ _ (unhide HK4)
  have y5 : w4.cell? ⟨w.heap.size, 5, none⟩ = some (.int .i64 tr) := cell_of_row _ _ 5 _ _ _ (unhide HK4)
  have y6 : w4.cell? ⟨w.heap.size, 6, none⟩ = some (.int .i64 am) := cell_of_row _ _ 6 _ _ _ (unhide HK4)
  have y7 : w4.cell? ⟨w.heap.size, 7, none⟩ = some (.bool ca) := cell_of_row _ _ 7 _ _ _ (unhide HK4)
  have y8 : w4.cell? ⟨w.heap.size, 8, none⟩ = some (.int .i64 dy) := cell_of_row _ _ 8 _ _ _ (unhide HK4)
  have y9 : w4.cell? ⟨w.heap.size, 9, none⟩ = some (.int .i64 bt) := cell_of_row _ _ 9 _ _ _ (unhide HK4)
  have y10 : w4.cell? ⟨w.heap.size, 10, none⟩ = some (.string no) := cell_of_row _ _ 10 _ _ _ (unhide HK4)
  have y11 : w4.cell? ⟨w.heap.size, 11, none⟩ = some (.string ex) := cell_of_row _ _ 11 _ _ _ (unhide HK4)
  have y12 : w4.cell? ⟨w.heap.size, 12, none⟩ = some (.string an) := cell_of_row _ _ 12 _ _ _ (unhide HK4)
  have y13 : w4.cell? ⟨w.heap.size, 13, none⟩ = some (.string od) := cell_of_row _ _ 13 _ _ _ (unhide HK4)
  have r0 : w4.cell? ⟨w2.heap.size, 0, none⟩ = some (.int .i64 0) := cell_of_row _ _ 0 _ _ _ (unhide HR4)
  have r1 : w4.cell? ⟨w2.heap.size, 1, none⟩ = some (.string nm) := cell_of_row _ _ 1 _ _ _ (unhide HR4)
  have r2 : w4.cell? ⟨w2.heap.size, 2, none⟩ = some (.string dg) := cell_of_row _ _ 2 _ _ _ (unhide HR4)
  have r3 : w4.cell? ⟨w2.heap.size, 3, none⟩ = some (.int .i64 wn) := cell_of_row _ _ 3 _ _ _ (unhide HR4)
  have r4 : w4.cell? ⟨w2.heap.size, 4, none⟩ = some (.int .i64 sh) := cell_of_row _ _ 4 _ _ _ (unhide HR4)
  have r5 : w4.cell? ⟨w2.heap.size, 5, none⟩ = some (.int .i64 tr) := cell_of_row _ _ 5 _ _ _ (unhide HR4)
  have r6 : w4.cell? ⟨w2.heap.size, 6, none⟩ = some (.int .i64 am) := cell_of_row _ _ 6 _ _ _ (unhide HR4)
  have r7 : w4.cell? ⟨w2.heap.size, 7, none⟩ = some (.bool ca) := cell_of_row _ _ 7 _ _ _ (unhide HR4)
  have r8 : w4.cell? ⟨w2.heap.size, 8, none⟩ = some (.int .i64 dy) := cell_of_row _ _ 8 _ _ _ (unhide HR4)
  have r9 : w4.cell? ⟨w2.heap.size, 9, none⟩ = some (.int .i64 bt) := cell_of_row _ _ 9 _ _ _ (unhide HR4)
  have r10 : w4.cell? ⟨w2.heap.size, 10, none⟩ = some (.string no) := cell_of_row _ _ 10 _ _ _ (unhide HR4)
  have r11 : w4.cell? ⟨w2.heap.size, 11, none⟩ = some (.string ex) := cell_of_row _ _ 11 _ _ _ (unhide HR4)
  have r12 : w4.cell? ⟨w2.heap.size, 12, none⟩ = some (.string an) := cell_of_row _ _ 12 _ _ _ (unhide HR4)
  have r13 : w4.cell? ⟨w2.heap.size, 13, none⟩ = some (.string od) := cell_of_row _ _ 13 _ _ _ (unhide HR4)
  have rf : ∀ o, w4.frozen? ⟨w2.heap.size, o, none⟩ = false := fun o => frozen_of_row _ _ o _ _ (unhide HR4)
  go_wp2
  exact bodyPost_ret (v := .tuple #[.string ⟨#[]⟩, .int .i64 1]) (by simp [results, Try.results5, go_sem]) rfl ⟨rfl, unhide HB4⟩
end Go.Proofs.Ytamamlpicookiah
namespace Go.Proofs.Ytamamlpicookiah
open Go.RowKit
set_option linter.unusedVariables false

set_option maxRecDepth 100000 in
set_option maxHeartbeats 4000000 in
theorem rcmdN4 (nm dg : ByteArray) (wn sh tr am : Int) (ca : Bool) (dy bt : Int) (no ex an od : ByteArray) (w : World) (hbk : nm.size + dg.size + no.size + ex.size + an.size + od.size ≤ 0x100000) (hbe : decide ((⟨0, nm, ⟨#[]⟩, wn, ⟨sh, tr, am, ca, dy, bt, no⟩, ex, an, od⟩ : XCommand) = zeroC) = false) :
    Calls Try.prog 5 #[.agg #[.int .i64 4, .string nm, .string dg, .int .i64 wn, .int .i64 sh, .int .i64 tr, .int .i64 am, .bool ca, .int .i64 dy, .int .i64 bt, .string no, .string ex, .string an, .string od]] w fun e w' => e = .returned (.tuple #[.string ⟨#[]⟩, .int .i64 1]) ∧ Below w.heap.size w w' := by
  have hne := fun w => neq_lit ⟨0, nm, ⟨#[]⟩, wn, ⟨sh, tr, am, ca, dy, bt, no⟩, ex, an, od⟩ zeroC (.agg #[.int .i64 0, .string nm, .string ⟨#[]⟩, .int .i64 wn, .int .i64 sh, .int .i64 tr, .int .i64 am, .bool ca, .int .i64 dy, .int .i64 bt, .string no, .string ex, .string an, .string od]) (.agg #[.int .i64 0, .string ⟨#[]⟩, .string ⟨#[]⟩, .int .i64 0, .int .i64 0, .int .i64 0, .int .i64 0, .bool false, .int .i64 0, .int .i64 0, .string ⟨#[]⟩, .string ⟨#[]⟩, .string ⟨#[]⟩, .string ⟨#[]⟩]) rfl rfl w
  rw [hbe, Bool.not_false] at hne
  clear hbe
  have n1 := fun b cap w c0 => bytes1T 4 (by decide) b cap w c0
  have n2 := fun w => ritem_any 128 (strOfNums [4]) w (by decide) (by rw [strOfNums_size]; simp)
  have n3 := fun b cap w (c0 : w.cell? ⟨b, 0, none⟩ = some (.int .i64 wn)) => bytes_one wn b 0 cap w (World.block_lt_of_cell? w _ c0) c0
  have n4 := fun w => ritem_any 131 (strOfNums [lowByte wn]) w (by decide) (by rw [strOfNums_size]; simp)
  have zi := itS_size 128 (strOfNums [4])
  have zw := itS_size 131 (strOfNums [lowByte wn])
  have zn : (strOfNums [4]).size = 1 := by rw [strOfNums_size]; rfl
  have zl : (strOfNums [lowByte wn]).size = 1 := by rw [strOfNums_size]; rfl
  have ze : lenLen 1 = 1 := rfl
  rw [zn, ze] at zi
  rw [zl, ze] at zw
  have n5 := fun w => ritem_any 130 dg w (by decide) (by omega)
  have z5 := itS_size 130 dg
  have l5 := lenLen_le dg.size
  generalize itS 128 (strOfNums [4]) = a1 at *
  generalize itS 131 (strOfNums [lowByte wn]) = a2 at *
  generalize strOfNums [4] = p1 at *
  generalize strOfNums [lowByte wn] = p2 at *
  generalize itS 130 dg = a3 at *
  have ha0 := fun w' => run_string_add_sum (P := Try.prog) w' a1 a3 (by first | omega | (simp only [ByteArray.size_append]; omega))
  have N1 := hide n1; have N2 := hide n2; have N3 := hide n3; have N4 := hide n4; have N5 := hide n5
  clear n1 n2 n3 n4 n5 zi zw zn zl ze z5 l5
  have HB0 := hide ((Below.refl w.heap.size w).alloc (Nat.le_refl _) (.cells #[.int .i64 4, .string nm, .string dg, .int .i64 wn, .int .i64 sh, .int .i64 tr, .int .i64 am, .bool ca, .int .i64 dy, .int .i64 bt, .string no, .string ex, .string an, .string od] 25))
  go_enter Try.func5, Try.ntmps5
  go_wp2_with fail
  refine (unhide N1 _ _ _ (new_cellQ (by simp) rfl)).mono ?_
  rintro e w1 ⟨rfl, hb1⟩
  have hk0 := hb1.block w.heap.size (by simp; omega)
  have HK1 : Hid (w1.heap[w.heap.size]? = some (.cells #[.int .i64 4, .string nm, .string dg, .int .i64 wn, .int .i64 sh, .int .i64 tr, .int .i64 am, .bool ca, .int .i64 dy, .int .i64 bt, .string no, .string ex, .string an, .string od] 25)) := hide (by rw [hk0]; exact (two_newP w _ _).1)
  have HB1 := hide (ext_callQ (ext_allocQ (unhide HB0) _) hb1)
  clear hb1 hk0 HB0
  go_wp2_with fail
  refine (unhide N2 _).mono ?_
  rintro e w2 ⟨rfl, hb2⟩
  have HK2 := hide ((hb2.block _ (block_ltQ (unhide HK1))).trans (unhide HK1))
  have HB2 := hide (ext_callQ (unhide HB1) hb2)
  have y0 : w2.cell? ⟨w.heap.size, 0, none⟩ = some (.int .i64 4) := cell_of_row _ _ 0 _ _ _ (unhide HK2)
  have y1 : w2.cell? ⟨w.heap.size, 1, none⟩ = some (.string nm) := cell_of_row _ _ 1 _ _ _ (unhide HK2)
  have y2 : w2.cell? ⟨w.heap.size, 2, none⟩ = some (.string dg) := cell_of_row _ _ 2 _ _ _ (unhide HK2)
  have y3 : w2.cell? ⟨w.heap.size, 3, none⟩ = some (.int .i64 wn) := cell_of_row _ _ 3 _ _ _ (unhide HK2)
  have y4 : w2.cell? ⟨w.heap.size, 4, none⟩ = some (.int .i64 sh) := cell_of_row _ _ 4 _ _ _ (unhide HK2)
  have y5 : w2.cell? ⟨w.heap.size, 5, none⟩ = some (.int .i64 tr) := cell_of_row _ _ 5 _ _ _ (unhide HK2)
  have y6 : w2.cell? ⟨w.heap.size, 6, none⟩ = some (.int .i64 am) := cell_of_row _ _ 6 _ _ _ (unhide HK2)
  have y7 : w2.cell? ⟨w.heap.size, 7, none⟩ = some (.bool ca) := cell_of_row _ _ 7 _ _ _ (unhide HK2)
  have y8 : w2.cell? ⟨w.heap.size, 8, none⟩ = some (.int .i64 dy) := cell_of_row _ _ 8 _ _ _ (unhide HK2)
  have y9 : w2.cell? ⟨w.heap.size, 9, none⟩ = some (.int .i64 bt) := cell_of_row _ _ 9 _ _ _ (unhide HK2)
  have y10 : w2.cell? ⟨w.heap.size, 10, none⟩ = some (.string no) := cell_of_row _ _ 10 _ _ _ (unhide HK2)
  have y11 : w2.cell? ⟨w.heap.size, 11, none⟩ = some (.string ex) := cell_of_row _ _ 11 _ _ _ (unhide HK2)
  have y12 : w2.cell? ⟨w.heap.size, 12, none⟩ = some (.string an) := cell_of_row _ _ 12 _ _ _ (unhide HK2)
  have y13 : w2.cell? ⟨w.heap.size, 13, none⟩ = some (.string od) := cell_of_row _ _ 13 _ _ _ (unhide HK2)
  have hlt2 : w.heap.size < w2.heap.size := block_ltQ (unhide HK2)
  have HKZ := hide (alloc_keepQT (o' := .cells #[.int .i64 0, .string nm, .string dg, .int .i64 wn, .int .i64 sh, .int .i64 tr, .int .i64 am, .bool ca, .int .i64 dy, .int .i64 bt, .string no, .string ex, .string an, .string od] 25) (unhide HK2))
  have x3 : (w2.alloc (.cells #[.int .i64 0, .string nm, .string dg, .int .i64 wn, .int .i64 sh, .int .i64 tr, .int .i64 am, .bool ca, .int .i64 dy, .int .i64 bt, .string no, .string ex, .string an, .string od] 25)).cell? ⟨w.heap.size, 3, none⟩ = some (.int .i64 wn) := cell_of_row _ _ 3 _ _ _ (unhide HKZ)
  have hne1 : ¬ w.heap.size = w2.heap.size := by omega
  have hne2 : ¬ w2.heap.size = w.heap.size := by omega
  clear hb2 HK1 HB1 N1 N2
  go_wp2_with fail
  refine (unhide N3 _ _ _ (new_cellQ (by simp) rfl)).mono ?_
  rintro e w3 ⟨rfl, hb3⟩
  have HK3 := hide ((hb3.block w.heap.size (by simp; omega)).trans (alloc_keepQT (unhide HKZ)))
  have HR3 : Hid (w3.heap[w2.heap.size]? = some (.cells #[.int .i64 0, .string nm, .string dg, .int .i64 wn, .int .i64 sh, .int .i64 tr, .int .i64 am, .bool ca, .int .i64 dy, .int .i64 bt, .string no, .string ex, .string an, .string od] 25)) := hide (by rw [hb3.block w2.heap.size (by simp; omega)]; exact (two_newP w2 _ _).1)
  have HB3 := hide (ext_callQ (ext_allocQ (ext_allocQ (unhide HB2) _) _) hb3)
  clear hb3 HKZ HB2 x3 y0 y1 y2 y3 y4 y5 y6 y7 y8 y9 y10 y11 y12 y13 HK2 N3
  go_wp2_with fail
  refine (unhide N4 _).mono ?_
  rintro e w4 ⟨rfl, hb4⟩
  have HK4 := hide ((hb4.block _ (block_ltQ (unhide HK3))).trans (unhide HK3))
  have HR4 := hide ((hb4.block _ (block_ltQ (unhide HR3))).trans (unhide HR3))
  have HB4 := hide (ext_callQ (unhide HB3) hb4)
  clear hb4 HK3 HR3 HB3 N4
  have y0 : w4.cell? ⟨w.heap.size, 0, none⟩ = some (.int .i64 4) := cell_of_row _ _ 0 _ _ _ (unhide HK4)
  have y1 : w4.cell? ⟨w.heap.size, 1, none⟩ = some (.string nm) := cell_of_row _ _ 1 _ _ _ (unhide HK4)
  have y2 : w4.cell? ⟨w.heap.size, 2, none⟩ = some (.string dg) := cell_of_row _ _ 2 _ _ _ (unhide HK4)
  have y3 : w4.cell? ⟨w.heap.size, 3, none⟩ = some (.int .i64 wn) := cell_of_row _ _ 3 _ _ _ (unhide HK4)
  have y4 : w4.cell? ⟨w.heap.size, 4, none⟩ = some (.int .i64 sh) := cell_of_row _ _ 4 _ _ _ (unhide HK4)
  have y5 : w4.cell? ⟨w.heap.size, 5, none⟩ = some (.int .i64 tr) := cell_of_row _ _ 5 _ _ _ (unhide HK4)
  have y6 : w4.cell? ⟨w.heap.size, 6, none⟩ = some (.int .i64 am) := cell_of_row _ _ 6 _ _ _ (unhide HK4)
  have y7 : w4.cell? ⟨w.heap.size, 7, none⟩ = some (.bool ca) := cell_of_row _ _ 7 _ _ _ (unhide HK4)
  have y8 : w4.cell? ⟨w.heap.size, 8, none⟩ = some (.int .i64 dy) := cell_of_row _ _ 8 _ _ _ (unhide HK4)
  have y9 : w4.cell? ⟨w.heap.size, 9, none⟩ = some (.int .i64 bt) := cell_of_row _ _ 9 _ _ _ (unhide HK4)
  have y10 : w4.cell? ⟨w.heap.size, 10, none⟩ = some (.string no) := cell_of_row _ _ 10 _ _ _ (unhide HK4)
  have y11 : w4.cell? ⟨w.heap.size, 11, none⟩ = some (.string ex) := cell_of_row _ _ 11 _ _ _ (unhide HK4)
  have y12 : w4.cell? ⟨w.heap.size, 12, none⟩ = some (.string an) := cell_of_row _ _ 12 _ _ _ (unhide HK4)
  have y13 : w4.cell? ⟨w.heap.size, 13, none⟩ = some (.string od) := cell_of_row _ _ 13 _ _ _ (unhide HK4)
  have r0 : w4.cell? ⟨w2.heap.size, 0, none⟩ = some (.int .i64 0) := cell_of_row _ _ 0 _ _ _ (unhide HR4)
  have r1 : w4.cell? ⟨w2.heap.size, 1, none⟩ = some (.string nm) := cell_of_row _ _ 1 _ _ _ (unhide HR4)
  have r2 : w4.cell? ⟨w2.heap.size, 2, none⟩ = some (.string dg) := cell_of_row _ _ 2 _ _ _ (unhide HR4)
  have r3 : w4.cell? ⟨w2.heap.size, 3, none⟩ = some (.int .i64 wn) := cell_of_row _ _ 3 _ _ _ (unhide HR4)
  have r4 : w4.cell? ⟨w2.heap.size, 4, none⟩ = some (.int .i64 sh) := cell_of_row _ _ 4 _ _ _ (unhide HR4)
  have r5 : w4.cell? ⟨w2.heap.size, 5, none⟩ = some (.int .i64 tr) := cell_of_row _ _ 5 _ _ _ (unhide HR4)
  have r6 : w4.cell? ⟨w2.heap.size, 6, none⟩ = some (.int .i64 am) := cell_of_row _ _ 6 _ _ _ (unhide HR4)
  have r7 : w4.cell? ⟨w2.heap.size, 7, none⟩ = some (.bool ca) := cell_of_row _ _ 7 _ _ _ (unhide HR4)
  have r8 : w4.cell? ⟨w2.heap.size, 8, none⟩ = some (.int .i64 dy) := cell_of_row _ _ 8 _ _ _ (unhide HR4)
  have r9 : w4.cell? ⟨w2.heap.size, 9, none⟩ = some (.int .i64 bt) := cell_of_row _ _ 9 _ _ _ (unhide HR4)
  have r10 : w4.cell? ⟨w2.heap.size, 10, none⟩ = some (.string no) := cell_of_row _ _ 10 _ _ _ (unhide HR4)
  have r11 : w4.cell? ⟨w2.heap.size, 11, none⟩ = some (.string ex) := cell_of_row _ _ 11 _ _ _ (unhide HR4)
  have r12 : w4.cell? ⟨w2.heap.size, 12, none⟩ = some (.string an) := cell_of_row _ _ 12 _ _ _ (unhide HR4)
  have r13 : w4.cell? ⟨w2.heap.size, 13, none⟩ = some (.string od) := cell_of_row _ _ 13 _ _ _ (unhide HR4)
  have rf : ∀ o, w4.frozen? ⟨w2.heap.size, o, none⟩ = false := fun o => frozen_of_row _ _ o _ _ (unhide HR4)
  go_wp2_with fail
  refine (unhide N5 _).mono ?_
  rintro e w5 ⟨rfl, hb5⟩
  have HK5 : Hid (w5.heap[w.heap.size]? = some (.cells #[.int .i64 4, .string nm, .string dg, .int .i64 wn, .int .i64 sh, .int .i64 tr, .int .i64 am, .bool ca, .int .i64 dy, .int .i64 bt, .string no, .string ex, .string an, .string od] 25)) := hide ((hb5.block _ (block_ltQ ((Below.heap_setCell _ _ _ _ (by show w.heap.size ≠ w2.heap.size; omega)).trans (unhide HK4)))).trans ((Below.heap_setCell _ _ _ _ (by show w.heap.size ≠ w2.heap.size; omega)).trans (unhide HK4)))
  have HR5 : Hid (w5.heap[w2.heap.size]? = some (.cells #[.int .i64 0, .string nm, .string ⟨#[]⟩, .int .i64 wn, .int .i64 sh, .int .i64 tr, .int .i64 am, .bool ca, .int .i64 dy, .int .i64 bt, .string no, .string ex, .string an, .string od] 25)) := hide ((hb5.block _ (block_ltQ (set_rowQ (j := 2) (v := .string ⟨#[]⟩) (unhide HR4)))).trans ((set_rowQ (j := 2) (v := .string ⟨#[]⟩) (unhide HR4)).trans rfl))
  have HB5 := hide (ext_callQ ((unhide HB4).setCell (p := ⟨w2.heap.size, 2, none⟩) (Nat.le_of_lt hlt2) (.string ⟨#[]⟩)) hb5)
  clear hb5 HK4 HR4 HB4 y0 r0 y1 r1 y2 r2 y3 r3 y4 r4 y5 r5 y6 r6 y7 r7 y8 r8 y9 r9 y10 r10 y11 r11 y12 r12 y13 r13 rf
  have y0 : w5.cell? ⟨w.heap.size, 0, none⟩ = some (.int .i64 4) := cell_of_row _ _ 0 _ _ _ (unhide HK5)
  have y1 : w5.cell? ⟨w.heap.size, 1, none⟩ = some (.string nm) := cell_of_row _ _ 1 _ _ _ (unhide HK5)
  have y2 : w5.cell? ⟨w.heap.size, 2, none⟩ = some (.string dg) := cell_of_row _ _ 2 _ _ _ (unhide HK5)
  have y3 : w5.cell? ⟨w.heap.size, 3, none⟩ = some (.int .i64 wn) := cell_of_row _ _ 3 _ _ _ (unhide HK5)
  have y4 : w5.cell? ⟨w.heap.size, 4, none⟩ = some (.int .i64 sh) := cell_of_row _ _ 4 _ _ _ (unhide HK5)
  have y5 : w5.cell? ⟨w.heap.size, 5, none⟩ = some (.int .i64 tr) := cell_of_row _ _ 5 _ _ _ (unhide HK5)
  have y6 : w5.cell? ⟨w.heap.size, 6, none⟩ = some (.int .i64 am) := cell_of_row _ _ 6 _ _ _ (unhide HK5)
  have y7 : w5.cell? ⟨w.heap.size, 7, none⟩ = some (.bool ca) := cell_of_row _ _ 7 _ _ _ (unhide HK5)
  have y8 : w5.cell? ⟨w.heap.size, 8, none⟩ = some (.int .i64 dy) := cell_of_row _ _ 8 _ _ _ (unhide HK5)
  have y9 : w5.cell? ⟨w.heap.size, 9, none⟩ = some (.int .i64 bt) := cell_of_row _ _ 9 _ _ _ (unhide HK5)
  have y10 : w5.cell? ⟨w.heap.size, 10, none⟩ = some (.string no) := cell_of_row _ _ 10 _ _ _ (unhide HK5)
  have y11 : w5.cell? ⟨w.heap.size, 11, none⟩ = some (.string ex) := cell_of_row _ _ 11 _ _ _ (unhide HK5)
  have y12 : w5.cell? ⟨w.heap.size, 12, none⟩ = some (.string an) := cell_of_row _ _ 12 _ _ _ (unhide HK5)
  have y13 : w5.cell? ⟨w.heap.size, 13, none⟩ = some (.string od) := cell_of_row _ _ 13 _ _ _ (unhide HK5)
  have r0 : w5.cell? ⟨w2.heap.size, 0, none⟩ = some (.int .i64 0) := cell_of_row _ _ 0 _ _ _ (unhide HR5)
  have r1 : w5.cell? ⟨w2.heap.size, 1, none⟩ = some (.string nm) := cell_of_row _ _ 1 _ _ _ (unhide HR5)
  have r2 : w5.cell? ⟨w2.heap.size, 2, none⟩ = some (.string ⟨#[]⟩) := cell_of_row _ _ 2 _ _ _ (unhide HR5)
  have r3 : w5.cell? ⟨w2.heap.size, 3, none⟩ = some (.int .i64 wn) := cell_of_row _ _ 3 _ _ _ (unhide HR5)
  have r4 : w5.cell? ⟨w2.heap.size, 4, none⟩ = some (.int .i64 sh) := cell_of_row _ _ 4 _ _ _ (unhide HR5)
  have r5 : w5.cell? ⟨w2.heap.size, 5, none⟩ = some (.int .i64 tr) := cell_of_row _ _ 5 _ _ _ (unhide HR5)
  have r6 : w5.cell? ⟨w2.heap.size, 6, none⟩ = some (.int .i64 am) := cell_of_row _ _ 6 _ _ _ (unhide HR5)
  have r7 : w5.cell? ⟨w2.heap.size, 7, none⟩ = some (.bool ca) := cell_of_row _ _ 7 _ _ _ (unhide HR5)
  have r8 : w5.cell? ⟨w2.heap.size, 8, none⟩ = some (.int .i64 dy) := cell_of_row _ _ 8 _ _ _ (unhide HR5)
  have r9 : w5.cell? ⟨w2.heap.size, 9, none⟩ = some (.int .i64 bt) := cell_of_row _ _ 9 _ _ _ (unhide HR5)
  have r10 : w5.cell? ⟨w2.heap.size, 10, none⟩ = some (.string no) := cell_of_row _ _ 10 _ _ _ (unhide HR5)
  have r11 : w5.cell? ⟨w2.heap.size, 11, none⟩ = some (.string ex) := cell_of_row _ _ 11 _ _ _ (unhide HR5)
  have r12 : w5.cell? ⟨w2.heap.size, 12, none⟩ = some (.string an) := cell_of_row _ _ 12 _ _ _ (unhide HR5)
  have r13 : w5.cell? ⟨w2.heap.size, 13, none⟩ = some (.string od) := cell_of_row _ _ 13 _ _ _ (unhide HR5)
  have rf : ∀ o, w5.frozen? ⟨w2.heap.size, o, none⟩ = false := fun o => frozen_of_row _ _ o _ _ (unhide HR5)
  go_wp2
  exact bodyPost_ret (v := .tuple #[.string ⟨#[]⟩, .int .i64 1]) (by simp [results, Try.results5, go_sem]) rfl ⟨rfl, unhide HB5⟩
set_option maxRecDepth 100000 in
set_option maxHeartbeats 4000000 in
theorem rcmdN5 (nm dg : ByteArray) (wn sh tr am : Int) (ca : Bool) (dy bt : Int) (no ex an od : ByteArray) (w : World) (hbk : nm.size + dg.size + no.size + ex.size + an.size + od.size ≤ 0x100000) (hbe : decide ((⟨0, nm, dg, 0, ⟨0, 0, 0, false, 0, 0, ⟨#[]⟩⟩, ⟨#[]⟩, an, od⟩ : XCommand) = zeroC) = false) :
    Calls Try.prog 5 #[.agg #[.int .i64 5, .string nm, .string dg, .int .i64 wn, .int .i64 sh, .int .i64 tr, .int .i64 am, .bool ca, .int .i64 dy, .int .i64 bt, .string no, .string ex, .string an, .string od]] w fun e w' => e = .returned (.tuple #[.string ⟨#[]⟩, .int .i64 1]) ∧ Below w.heap.size w w' := by
  have hne := fun w => neq_lit ⟨0, nm, dg, 0, ⟨0, 0, 0, false, 0, 0, ⟨#[]⟩⟩, ⟨#[]⟩, an, od⟩ zeroC (.agg #[.int .i64 0, .string nm, .string dg, .int .i64 0, .int .i64 0, .int .i64 0, .int .i64 0, .bool false, .int .i64 0, .int .i64 0, .string ⟨#[]⟩, .string ⟨#[]⟩, .string an, .string od]) (.agg #[.int .i64 0, .string ⟨#[]⟩, .string ⟨#[]⟩, .int .i64 0, .int .i64 0, .int .i64 0, .int .i64 0, .bool false, .int .i64 0, .int .i64 0, .string ⟨#[]⟩, .string ⟨#[]⟩, .string ⟨#[]⟩, .string ⟨#[]⟩]) rfl rfl w
  rw [hbe, Bool.not_false] at hne
  clear hbe
  have n1 := fun b cap w c0 => bytes1T 5 (by decide) b cap w c0
  have n2 := fun w => ritem_any 128 (strOfNums [5]) w (by decide) (by rw [strOfNums_size]; simp)
  have n3 := fun b cap w (c0 : w.cell? ⟨b, 0, none⟩ = some (.int .i64 wn)) => bytes_one wn b 0 cap w (World.block_lt_of_cell? w _ c0) c0
  have n4 := fun w => ritem_any 131 (strOfNums [lowByte wn]) w (by decide) (by rw [strOfNums_size]; simp)
  have zi := itS_size 128 (strOfNums [5])
  have zw := itS_size 131 (strOfNums [lowByte wn])
  have zn : (strOfNums [5]).size = 1 := by rw [strOfNums_size]; rfl
  have zl : (strOfNums [lowByte wn]).size = 1 := by rw [strOfNums_size]; rfl
  have ze : lenLen 1 = 1 := rfl
  rw [zn, ze] at zi
  rw [zl, ze] at zw
  have n9 := fun w => rdealText_any ⟨sh, tr, am, ca, dy, bt, no⟩ w
  have hvd : valDeal ⟨sh, tr, am, ca, dy, bt, no⟩ = .agg #[.int .i64 sh, .int .i64 tr, .int .i64 am, .bool ca, .int .i64 dy, .int .i64 bt, .string no] := rfl
  rw [hvd] at n9
  have zds := dealS_size ⟨sh, tr, am, ca, dy, bt, no⟩
  have n5 := fun w => ritem_any 132 (dealS ⟨sh, tr, am, ca, dy, bt, no⟩) w (by decide) (by omega)
  have n6 := fun w => ritem_any 133 ex w (by decide) (by omega)
  have z5 := itS_size 132 (dealS ⟨sh, tr, am, ca, dy, bt, no⟩)
  have z6 := itS_size 133 ex
  have l5 := lenLen_le (dealS ⟨sh, tr, am, ca, dy, bt, no⟩).size
  have l6 := lenLen_le ex.size
  clear hvd
  generalize itS 128 (strOfNums [5]) = a1 at *
  generalize itS 131 (strOfNums [lowByte wn]) = a2 at *
  generalize strOfNums [5] = p1 at *
  generalize strOfNums [lowByte wn] = p2 at *
  generalize itS 132 (dealS ⟨sh, tr, am, ca, dy, bt, no⟩) = a3 at *
  generalize itS 133 ex = a4 at *
  generalize dealS ⟨sh, tr, am, ca, dy, bt, no⟩ = ds at *
  generalize dealE ⟨sh, tr, am, ca, dy, bt, no⟩ = de at *
  have ha0 := fun w' => run_string_add_sum (P := Try.prog) w' a2 a3 (by first | omega | (simp only [ByteArray.size_append]; omega))
  have ha1 := fun w' => run_string_add_sum (P := Try.prog) w' (a2 ++ a3) a4 (by first | omega | (simp only [ByteArray.size_append]; omega))
  have ha2 := fun w' => run_string_add_sum (P := Try.prog) w' a1 (a2 ++ a3 ++ a4) (by first | omega | (simp only [ByteArray.size_append]; omega))
  have N1 := hide n1; have N2 := hide n2; have N3 := hide n3; have N4 := hide n4; have N5 := hide n5; have N6 := hide n6; have N9 := hide n9
  clear n1 n2 n3 n4 n5 n6 n9 zi zw zn zl ze z5 l5 z6 l6 zds
  have HB0 := hide ((Below.refl w.heap.size w).alloc (Nat.le_refl _) (.cells #[.int .i64 5, .string nm, .string dg, .int .i64 wn, .int .i64 sh, .int .i64 tr, .int .i64 am, .bool ca, .int .i64 dy, .int .i64 bt, .string no, .string ex, .string an, .string od] 25))
  go_enter Try.func5, Try.ntmps5
  go_wp2_with fail
  refine (unhide N1 _ _ _ (new_cellQ (by simp) rfl)).mono ?_
  rintro e w1 ⟨rfl, hb1⟩
  have hk0 := hb1.block w.heap.size (by simp; omega)
  have HK1 : Hid (w1.heap[w.heap.size]? = some (.cells #[.int .i64 5, .string nm, .string dg, .int .i64 wn, .int .i64 sh, .int .i64 tr, .int .i64 am, .bool ca, .int .i64 dy, .int .i64 bt, .string no, .string ex, .string an, .string od] 25)) := hide (by rw [hk0]; exact (two_newP w _ _).1)
  have HB1 := hide (ext_callQ (ext_allocQ (unhide HB0) _) hb1)
  clear hb1 hk0 HB0
  go_wp2_with fail
  refine (unhide N2 _).mono ?_
  rintro e w2 ⟨rfl, hb2⟩
  have HK2 := hide ((hb2.block _ (block_ltQ (unhide HK1))).trans (unhide HK1))
  have HB2 := hide (ext_callQ (unhide HB1) hb2)
  have y0 : w2.cell? ⟨w.heap.size, 0, none⟩ = some (.int .i64 5) := cell_of_row _ _ 0 _ _ _ (unhide HK2)
  have y1 : w2.cell? ⟨w.heap.size, 1, none⟩ = some (.string nm) := cell_of_row _ _ 1 _ _ _ (unhide HK2)
  have y2 : w2.cell? ⟨w.heap.size, 2, none⟩ = some (.string dg) := cell_of_row _ _ 2 _ _ _ (unhide HK2)
  have y3 : w2.cell? ⟨w.heap.size, 3, none⟩ = some (.int .i64 wn) := cell_of_row _ _ 3 _ _ _ (unhide HK2)
  have y4 : w2.cell? ⟨w.heap.size, 4, none⟩ = some (.int .i64 sh) := cell_of_row _ _ 4 _ _ _ (unhide HK2)
  have y5 : w2.cell? ⟨w.heap.size, 5, none⟩ = some (.int .i64 tr) := cell_of_row _ _ 5 _ _ _ (unhide HK2)
  have y6 : w2.cell? ⟨w.heap.size, 6, none⟩ = some (.int .i64 am) := cell_of_row _ _ 6 _ _ _ (unhide HK2)
  have y7 : w2.cell? ⟨w.heap.size, 7, none⟩ = some (.bool ca) := cell_of_row _ _ 7 _ _ _ (unhide HK2)
  have y8 : w2.cell? ⟨w.heap.size, 8, none⟩ = some (.int .i64 dy) := cell_of_row _ _ 8 _ _ _ (unhide HK2)
  have y9 : w2.cell? ⟨w.heap.size, 9, none⟩ = some (.int .i64 bt) := cell_of_row _ _ 9 _ _ _ (unhide HK2)
  have y10 : w2.cell? ⟨w.heap.size, 10, none⟩ = some (.string no) := cell_of_row _ _ 10 _ _ _ (unhide HK2)
  have y11 : w2.cell? ⟨w.heap.size, 11, none⟩ = some (.string ex) := cell_of_row _ _ 11 _ _ _ (unhide HK2)
  have y12 : w2.cell? ⟨w.heap.size, 12, none⟩ = some (.string an) := cell_of_row _ _ 12 _ _ _ (unhide HK2)
  have y13 : w2.cell? ⟨w.heap.size, 13, none⟩ = some (.string od) := cell_of_row _ _ 13 _ _ _ (unhide HK2)
  have hlt2 : w.heap.size < w2.heap.size := block_ltQ (unhide HK2)
  have HKZ := hide (alloc_keepQT (o' := .cells #[.int .i64 0, .string nm, .string dg, .int .i64 wn, .int .i64 sh, .int .i64 tr, .int .i64 am, .bool ca, .int .i64 dy, .int .i64 bt, .string no, .string ex, .string an, .string od] 25) (unhide HK2))
  have x3 : (w2.alloc (.cells #[.int .i64 0, .string nm, .string dg, .int .i64 wn, .int .i64 sh, .int .i64 tr, .int .i64 am, .bool ca, .int .i64 dy, .int .i64 bt, .string no, .string ex, .string an, .string od] 25)).cell? ⟨w.heap.size, 3, none⟩ = some (.int .i64 wn) := cell_of_row _ _ 3 _ _ _ (unhide HKZ)
  have hne1 : ¬ w.heap.size = w2.heap.size := by omega
  have hne2 : ¬ w2.heap.size = w.heap.size := by omega
  clear hb2 HK1 HB1 N1 N2
  go_wp2_with fail
  refine (unhide N3 _ _ _ (new_cellQ (by simp) rfl)).mono ?_
  rintro e w3 ⟨rfl, hb3⟩
  have HK3 := hide ((hb3.block w.heap.size (by simp; omega)).trans (alloc_keepQT (unhide HKZ)))
  have HR3 : Hid (w3.heap[w2.heap.size]? = some (.cells #[.int .i64 0, .string nm, .string dg, .int .i64 wn, .int .i64 sh, .int .i64 tr, .int .i64 am, .bool ca, .int .i64 dy, .int .i64 bt, .string no, .string ex, .string an, .string od] 25)) := hide (by rw [hb3.block w2.heap.size (by simp; omega)]; exact (two_newP w2 _ _).1)
  have HB3 := hide (ext_callQ (ext_allocQ (ext_allocQ (unhide HB2) _) _) hb3)
  clear hb3 HKZ HB2 x3 y0 y1 y2 y3 y4 y5 y6 y7 y8 y9 y10 y11 y12 y13 HK2 N3
  go_wp2_with fail
  refine (unhide N4 _).mono ?_
  rintro e w4 ⟨rfl, hb4⟩
  have HK4 := hide ((hb4.block _ (block_ltQ (unhide HK3))).trans (unhide HK3))
  have HR4 := hide ((hb4.block _ (block_ltQ (unhide HR3))).trans (unhide HR3))
  have HB4 := hide (ext_callQ (unhide HB3) hb4)
  clear hb4 HK3 HR3 HB3 N4
  have y0 : w4.cell? ⟨w.heap.size, 0, none⟩ = some (.int .i64 5) := cell_of_row _ _ 0 _ _ _ (unhide HK4)
  have y1 : w4.cell? ⟨w.heap.size, 1, none⟩ = some (.string nm) := cell_of_row _ _ 1 _ _ _ (unhide HK4)
  have y2 : w4.cell? ⟨w.heap.size, 2, none⟩ = some (.string dg) := cell_of_row _ _ 2 _ _ _ (unhide HK4)
  have y3 : w4.cell? ⟨w.heap.size, 3, none⟩ = some (.int .i64 wn) := cell_of_row _ _ 3 _ _ _ (unhide HK4)
  have y4 : w4.cell? ⟨w.heap.size, 4, none⟩ = some (.int .i64 sh) := cell_of_row _ _ 4 _ _ _ (unhide HK4)
  have y5 : w4.cell? ⟨w.heap.size, 5, none⟩ = some (.int .i64 tr) := cell_of_row _ _ 5 _ _ _ (unhide HK4)
  have y6 : w4.cell? ⟨w.heap.size, 6, none⟩ = some (.int .i64 am) := cell_of_row _ _ 6 _ _ _ (unhide HK4)
  have y7 : w4.cell? ⟨w.heap.size, 7, none⟩ = some (.bool ca) := cell_of_row _ _ 7 _ _ _ (unhide HK4)
  have y8 : w4.cell? ⟨w.heap.size, 8, none⟩ = some (.int .i64 dy) := cell_of_row _ _ 8 _ _ _ (unhide HK4)
  have y9 : w4.cell? ⟨w.heap.size, 9, none⟩ = some (.int .i64 bt) := cell_of_row _ _ 9 _ _ _ (unhide HK4)
  have y10 : w4.cell? ⟨w.heap.size, 10, none⟩ = some (.string no) := cell_of_row _ _ 10 _ _ _ (unhide HK4)
  have y11 : w4.cell? ⟨w.heap.size, 11, none⟩ = some (.string ex) := cell_of_row _ _ 11 _ _ _ (unhide HK4)
  have y12 : w4.cell? ⟨w.heap.size, 12, none⟩ = some (.string an) := cell_of_row _ _ 12 _ _ _ (unhide HK4)
  have y13 : w4.cell? ⟨w.heap.size, 13, none⟩ = some (.string od) := cell_of_row _ _ 13 _ _ _ (unhide HK4)
  have r0 : w4.cell? ⟨w2.heap.size, 0, none⟩ = some (.int .i64 0) := cell_of_row _ _ 0 _ _ _ (unhide HR4)
  have r1 : w4.cell? ⟨w2.heap.size, 1, none⟩ = some (.string nm) := cell_of_row _ _ 1 _ _ _ (unhide HR4)
  have r2 : w4.cell? ⟨w2.heap.size, 2, none⟩ = some (.string dg) := cell_of_row _ _ 2 _ _ _ (unhide HR4)
  have r3 : w4.cell? ⟨w2.heap.size, 3, none⟩ = some (.int .i64 wn) := cell_of_row _ _ 3 _ _ _ (unhide HR4)
  have r4 : w4.cell? ⟨w2.heap.size, 4, none⟩ = some (.int .i64 sh) := cell_of_row _ _ 4 _ _ _ (unhide HR4)
  have r5 : w4.cell? ⟨w2.heap.size, 5, none⟩ = some (.int .i64 tr) := cell_of_row _ _ 5 _ _ _ (unhide HR4)
  have r6 : w4.cell? ⟨w2.heap.size, 6, none⟩ = some (.int .i64 am) := cell_of_row _ _ 6 _ _ _ (unhide HR4)
  have r7 : w4.cell? ⟨w2.heap.size, 7, none⟩ = some (.bool ca) := cell_of_row _ _ 7 _ _ _ (unhide HR4)
  have r8 : w4.cell? ⟨w2.heap.size, 8, none⟩ = some (.int .i64 dy) := cell_of_row _ _ 8 _ _ _ (unhide HR4)
  have r9 : w4.cell? ⟨w2.heap.size, 9, none⟩ = some (.int .i64 bt) := cell_of_row _ _ 9 _ _ _ (unhide HR4)
  have r10 : w4.cell? ⟨w2.heap.size, 10, none⟩ = some (.string no) := cell_of_row _ _ 10 _ _ _ (unhide HR4)
  have r11 : w4.cell? ⟨w2.heap.size, 11, none⟩ = some (.string ex) := cell_of_row _ _ 11 _ _ _ (unhide HR4)
  have r12 : w4.cell? ⟨w2.heap.size, 12, none⟩ = some (.string an) := cell_of_row _ _ 12 _ _ _ (unhide HR4)
  have r13 : w4.cell? ⟨w2.heap.size, 13, none⟩ = some (.string od) := cell_of_row _ _ 13 _ _ _ (unhide HR4)
  have rf : ∀ o, w4.frozen? ⟨w2.heap.size, o, none⟩ = false := fun o => frozen_of_row _ _ o _ _ (unhide HR4)
  go_wp2_with fail
  refine (unhide N9 _).mono ?_
  rintro e w5 ⟨rfl, hb5⟩
  have HK5 : Hid (w5.heap[w.heap.size]? = some (.cells #[.int .i64 5, .string nm, .string dg, .int .i64 wn, .int .i64 sh, .int .i64 tr, .int .i64 am, .bool ca, .int .i64 dy, .int .i64 bt, .string no, .string ex, .string an, .string od] 25)) := hide ((hb5.block _ (block_ltQ (unhide HK4))).trans (unhide HK4))
  have HR5 : Hid (w5.heap[w2.heap.size]? = some (.cells #[.int .i64 0, .string nm, .string dg, .int .i64 wn, .int .i64 sh, .int .i64 tr, .int .i64 am, .bool ca, .int .i64 dy, .int .i64 bt, .string no, .string ex, .string an, .string od] 25)) := hide ((hb5.block _ (block_ltQ (unhide HR4))).trans ((unhide HR4).trans rfl))
  have HB5 := hide (ext_callQ (unhide HB4) hb5)
  clear hb5 HK4 HR4 HB4 y0 r0 y1 r1 y2 r2 y3 r3 y4 r4 y5 r5 y6 r6 y7 r7 y8 r8 y9 r9 y10 r10 y11 r11 y12 r12 y13 r13 rf
  have y0 : w5.cell? ⟨w.heap.size, 0, none⟩ = some (.int .i64 5) := cell_of_row _ _ 0 _ _ _ (unhide HK5)
  have y1 : w5.cell? ⟨w.heap.size, 1, none⟩ = some (.string nm) := cell_of_row _ _ 1 _ _ _ (unhide HK5)
  have y2 : w5.cell? ⟨w.heap.size, 2, none⟩ = some (.string dg) := cell_of_row _ _ 2 _ _ _ (unhide HK5)
  have y3 : w5.cell? ⟨w.heap.size, 3, none⟩ = some (.int .i64 wn) := cell_of_row _ _ 3 _ _ _ (unhide HK5)
  have y4 : w5.cell? ⟨w.heap.size, 4, none⟩ = some (.int .i64 sh) := cell_of_row _ _ 4 _ _ _ (unhide HK5)
  have y5 : w5.cell? ⟨w.heap.size, 5, none⟩ = some (.int .i64 tr) := cell_of_row _ _ 5 _ _ _ (unhide HK5)
  have y6 : w5.cell? ⟨w.heap.size, 6, none⟩ = some (.int .i64 am) := cell_of_row _ _ 6 _ _ _ (unhide HK5)
  have y7 : w5.cell? ⟨w.heap.size, 7, none⟩ = some (.bool ca) := cell_of_row _ _ 7 _ _ _ (unhide HK5)
  have y8 : w5.cell? ⟨w.heap.size, 8, none⟩ = some (.int .i64 dy) := cell_of_row _ _ 8 _ _ _ (unhide HK5)
  have y9 : w5.cell? ⟨w.heap.size, 9, none⟩ = some (.int .i64 bt) := cell_of_row _ _ 9 _ _ _ (unhide HK5)
  have y10 : w5.cell? ⟨w.heap.size, 10, none⟩ = some (.string no) := cell_of_row _ _ 10 _ _ _ (unhide HK5)
  have y11 : w5.cell? ⟨w.heap.size, 11, none⟩ = some (.string ex) := cell_of_row _ _ 11 _ _ _ (unhide HK5)
  have y12 : w5.cell? ⟨w.heap.size, 12, none⟩ = some (.string an) := cell_of_row _ _ 12 _ _ _ (unhide HK5)
  have y13 : w5.cell? ⟨w.heap.size, 13, none⟩ = some (.string od) := cell_of_row _ _ 13 _ _ _ (unhide HK5)
  have r0 : w5.cell? ⟨w2.heap.size, 0, none⟩ = some (.int .i64 0) := cell_of_row _ _ 0 _ _ _ (unhide HR5)
  have r1 : w5.cell? ⟨w2.heap.size, 1, none⟩ = some (.string nm) := cell_of_row _ _ 1 _ _ _ (unhide HR5)
  have r2 : w5.cell? ⟨w2.heap.size, 2, none⟩ = some (.string dg) := cell_of_row _ _ 2 _ _ _ (unhide HR5)
  have r3 : w5.cell? ⟨w2.heap.size, 3, none⟩ = some (.int .i64 wn) := cell_of_row _ _ 3 _ _ _ (unhide HR5)
  have r4 : w5.cell? ⟨w2.heap.size, 4, none⟩ = some (.int .i64 sh) := cell_of_row _ _ 4 _ _ _ (unhide HR5)
  have r5 : w5.cell? ⟨w2.heap.size, 5, none⟩ = some (.int .i64 tr) := cell_of_row _ _ 5 _ _ _ (unhide HR5)
  have r6 : w5.cell? ⟨w2.heap.size, 6, none⟩ = some (.int .i64 am) := cell_of_row _ _ 6 _ _ _ (unhide HR5)
  have r7 : w5.cell? ⟨w2.heap.size, 7, none⟩ = some (.bool ca) := cell_of_row _ _ 7 _ _ _ (unhide HR5)
  have r8 : w5.cell? ⟨w2.heap.size, 8, none⟩ = some (.int .i64 dy) := cell_of_row _ _ 8 _ _ _ (unhide HR5)
  have r9 : w5.cell? ⟨w2.heap.size, 9, none⟩ = some (.int .i64 bt) := cell_of_row _ _ 9 _ _ _ (unhide HR5)
  have r10 : w5.cell? ⟨w2.heap.size, 10, none⟩ = some (.string no) := cell_of_row _ _ 10 _ _ _ (unhide HR5)
  have r11 : w5.cell? ⟨w2.heap.size, 11, none⟩ = some (.string ex) := cell_of_row _ _ 11 _ _ _ (unhide HR5)
  have r12 : w5.cell? ⟨w2.heap.size, 12, none⟩ = some (.string an) := cell_of_row _ _ 12 _ _ _ (unhide HR5)
  have r13 : w5.cell? ⟨w2.heap.size, 13, none⟩ = some (.string od) := cell_of_row _ _ 13 _ _ _ (unhide HR5)
  have rf : ∀ o, w5.frozen? ⟨w2.heap.size, o, none⟩ = false := fun o => frozen_of_row _ _ o _ _ (unhide HR5)
  have hk0 := unhide HK5
  have hr0 := unhide HR5
  have hbb0 := unhide HB5
  obtain ⟨v1, hv1⟩ : ∃ W, W = w5.setCell ⟨w2.heap.size, 3, none⟩ (.int .i64 0) := ⟨_, rfl⟩
  have hk1 : v1.heap[w.heap.size]? = some (.cells #[.int .i64 5, .string nm, .string dg, .int .i64 wn, .int .i64 sh, .int .i64 tr, .int .i64 am, .bool ca, .int .i64 dy, .int .i64 bt, .string no, .string ex, .string an, .string od] 25) := by rw [hv1, Below.heap_setCell w5 ⟨w2.heap.size, 3, none⟩ (.int .i64 0) w.heap.size (by show w.heap.size ≠ w2.heap.size; omega)]; exact hk0
  have hr1 : v1.heap[w2.heap.size]? = some (.cells #[.int .i64 0, .string nm, .string dg, .int .i64 0, .int .i64 sh, .int .i64 tr, .int .i64 am, .bool ca, .int .i64 dy, .int .i64 bt, .string no, .string ex, .string an, .string od] 25) := by rw [hv1]; exact (set_rowQ (j := 3) (v := .int .i64 0) hr0).trans rfl
  have hbb1 : Below w.heap.size w v1 := by rw [hv1]; exact hbb0.setCell (p := ⟨w2.heap.size, 3, none⟩) (Nat.le_of_lt hlt2) (.int .i64 0)
  have HV1 := hide hv1
  clear hk0 hr0 hbb0 hv1
  obtain ⟨v2, hv2⟩ : ∃ W, W = v1.setCell ⟨w2.heap.size, 4, none⟩ (.int .i64 0) := ⟨_, rfl⟩
  have hk2 : v2.heap[w.heap.size]? = some (.cells #[.int .i64 5, .string nm, .string dg, .int .i64 wn, .int .i64 sh, .int .i64 tr, .int .i64 am, .bool ca, .int .i64 dy, .int .i64 bt, .string no, .string ex, .string an, .string od] 25) := by rw [hv2, Below.heap_setCell v1 ⟨w2.heap.size, 4, none⟩ (.int .i64 0) w.heap.size (by show w.heap.size ≠ w2.heap.size; omega)]; exact hk1
  have hr2 : v2.heap[w2.heap.size]? = some (.cells #[.int .i64 0, .string nm, .string dg, .int .i64 0, .int .i64 0, .int .i64 tr, .int .i64 am, .bool ca, .int .i64 dy, .int .i64 bt, .string no, .string ex, .string an, .string od] 25) := by rw [hv2]; exact (set_rowQ (j := 4) (v := .int .i64 0) hr1).trans rfl
  have hbb2 : Below w.heap.size w v2 := by rw [hv2]; exact hbb1.setCell (p := ⟨w2.heap.size, 4, none⟩) (Nat.le_of_lt hlt2) (.int .i64 0)
  have HV2 := hide hv2
  clear hk1 hr1 hbb1 hv2
  obtain ⟨v3, hv3⟩ : ∃ W, W = v2.setCell ⟨w2.heap.size, 5, none⟩ (.int .i64 0) := ⟨_, rfl⟩
  have hk3 : v3.heap[w.heap.size]? = some (.cells #[.int .i64 5, .string nm, .string dg, .int .i64 wn, .int .i64 sh, .int .i64 tr, .int .i64 am, .bool ca, .int .i64 dy, .int .i64 bt, .string no, .string ex, .string an, .string od] 25) := by rw [hv3, Below.heap_setCell v2 ⟨w2.heap.size, 5, none⟩ (.int .i64 0) w.heap.size (by show w.heap.size ≠ w2.heap.size; omega)]; exact hk2
  have hr3 : v3.heap[w2.heap.size]? = some (.cells #[.int .i64 0, .string nm, .string dg, .int .i64 0, .int .i64 0, .int .i64 0, .int .i64 am, .bool ca, .int .i64 dy, .int .i64 bt, .string no, .string ex, .string an, .string od] 25) := by rw [hv3]; exact (set_rowQ (j := 5) (v := .int .i64 0) hr2).trans rfl
  have hbb3 : Below w.heap.size w v3 := by rw [hv3]; exact hbb2.setCell (p := ⟨w2.heap.size, 5, none⟩) (Nat.le_of_lt hlt2) (.int .i64 0)
  have HV3 := hide hv3
  clear hk2 hr2 hbb2 hv3
  obtain ⟨v4, hv4⟩ : ∃ W, W = v3.setCell ⟨w2.heap.size, 6, none⟩ (.int .i64 0) := ⟨_, rfl⟩
  have hk4 : v4.heap[w.heap.size]? = some (.cells #[.int .i64 5, .string nm, .string dg, .int .i64 wn, .int .i64 sh, .int .i64 tr, .int .i64 am, .bool ca, .int .i64 dy, .int .i64 bt, .string no, .string ex, .string an, .string od] 25) := by rw [hv4, Below.heap_setCell v3 ⟨w2.heap.size, 6, none⟩ (.int .i64 0) w.heap.size (by show w.heap.size ≠ w2.heap.size; omega)]; exact hk3
  have hr4 : v4.heap[w2.heap.size]? = some (.cells #[.int .i64 0, .string nm, .string dg, .int .i64 0, .int .i64 0, .int .i64 0, .int .i64 0, .bool ca, .int .i64 dy, .int .i64 bt, .string no, .string ex, .string an, .string od] 25) := by rw [hv4]; exact (set_rowQ (j := 6) (v := .int .i64 0) hr3).trans rfl
  have hbb4 : Below w.heap.size w v4 := by rw [hv4]; exact hbb3.setCell (p := ⟨w2.heap.size, 6, none⟩) (Nat.le_of_lt hlt2) (.int .i64 0)
  have HV4 := hide hv4
  clear hk3 hr3 hbb3 hv4
  obtain ⟨v5, hv5⟩ : ∃ W, W = v4.setCell ⟨w2.heap.size, 7, none⟩ (.bool false) := ⟨_, rfl⟩
  have hk5 : v5.heap[w.heap.size]? = some (.cells #[.int .i64 5, .string nm, .string dg, .int .i64 wn, .int .i64 sh, .int .i64 tr, .int .i64 am, .bool ca, .int .i64 dy, .int .i64 bt, .string no, .string ex, .string an, .string od] 25) := by rw [hv5, Below.heap_setCell v4 ⟨w2.heap.size, 7, none⟩ (.bool false) w.heap.size (by show w.heap.size ≠ w2.heap.size; omega)]; exact hk4
  have hr5 : v5.heap[w2.heap.size]? = some (.cells #[.int .i64 0, .string nm, .string dg, .int .i64 0, .int .i64 0, .int .i64 0, .int .i64 0, .bool false, .int .i64 dy, .int .i64 bt, .string no, .string ex, .string an, .string od] 25) := by rw [hv5]; exact (set_rowQ (j := 7) (v := .bool false) hr4).trans rfl
  have hbb5 : Below w.heap.size w v5 := by rw [hv5]; exact hbb4.setCell (p := ⟨w2.heap.size, 7, none⟩) (Nat.le_of_lt hlt2) (.bool false)
  have HV5 := hide hv5
  clear hk4 hr4 hbb4 hv5
  obtain ⟨v6, hv6⟩ : ∃ W, W = v5.setCell ⟨w2.heap.size, 8, none⟩ (.int .i64 0) := ⟨_, rfl⟩
  have hk6 : v6.heap[w.heap.size]? = some (.cells #[.int .i64 5, .string nm, .string dg, .int .i64 wn, .int .i64 sh, .int .i64 tr, .int .i64 am, .bool ca, .int .i64 dy, .int .i64 bt, .string no, .string ex, .string an, .string od] 25) := by rw [hv6, Below.heap_setCell v5 ⟨w2.heap.size, 8, none⟩ (.int .i64 0) w.heap.size (by show w.heap.size ≠ w2.heap.size; omega)]; exact hk5
  have hr6 : v6.heap[w2.heap.size]? = some (.cells #[.int .i64 0, .string nm, .string dg, .int .i64 0, .int .i64 0, .int .i64 0, .int .i64 0, .bool false, .int .i64 0, .int .i64 bt, .string no, .string ex, .string an, .string od] 25) := by rw [hv6]; exact (set_rowQ (j := 8) (v := .int .i64 0) hr5).trans rfl
  have hbb6 : Below w.heap.size w v6 := by rw [hv6]; exact hbb5.setCell (p := ⟨w2.heap.size, 8, none⟩) (Nat.le_of_lt hlt2) (.int .i64 0)
  have HV6 := hide hv6
  clear hk5 hr5 hbb5 hv6
  obtain ⟨v7, hv7⟩ : ∃ W, W = v6.setCell ⟨w2.heap.size, 9, none⟩ (.int .i64 0) := ⟨_, rfl⟩
  have hk7 : v7.heap[w.heap.size]? = some (.cells #[.int .i64 5, .string nm, .string dg, .int .i64 wn, .int .i64 sh, .int .i64 tr, .int .i64 am, .bool ca, .int .i64 dy, .int .i64 bt, .string no, .string ex, .string an, .string od] 25) := by rw [hv7, Below.heap_setCell v6 ⟨w2.heap.size, 9, none⟩ (.int .i64 0) w.heap.size (by show w.heap.size ≠ w2.heap.size; omega)]; exact hk6
  have hr7 : v7.heap[w2.heap.size]? = some (.cells #[.int .i64 0, .string nm, .string dg, .int .i64 0, .int .i64 0, .int .i64 0, .int .i64 0, .bool false, .int .i64 0, .int .i64 0, .string no, .string ex, .string an, .string od] 25) := by rw [hv7]; exact (set_rowQ (j := 9) (v := .int .i64 0) hr6).trans rfl
  have hbb7 : Below w.heap.size w v7 := by rw [hv7]; exact hbb6.setCell (p := ⟨w2.heap.size, 9, none⟩) (Nat.le_of_lt hlt2) (.int .i64 0)
  have HV7 := hide hv7
  clear hk6 hr6 hbb6 hv7
  obtain ⟨v8, hv8⟩ : ∃ W, W = v7.setCell ⟨w2.heap.size, 10, none⟩ (.string ⟨#[]⟩) := ⟨_, rfl⟩
  have hk8 : v8.heap[w.heap.size]? = some (.cells #[.int .i64 5, .string nm, .string dg, .int .i64 wn, .int .i64 sh, .int .i64 tr, .int .i64 am, .bool ca, .int .i64 dy, .int .i64 bt, .string no, .string ex, .string an, .string od] 25) := by rw [hv8, Below.heap_setCell v7 ⟨w2.heap.size, 10, none⟩ (.string ⟨#[]⟩) w.heap.size (by show w.heap.size ≠ w2.heap.size; omega)]; exact hk7
  have hr8 : v8.heap[w2.heap.size]? = some (.cells #[.int .i64 0, .string nm, .string dg, .int .i64 0, .int .i64 0, .int .i64 0, .int .i64 0, .bool false, .int .i64 0, .int .i64 0, .string ⟨#[]⟩, .string ex, .string an, .string od] 25) := by rw [hv8]; exact (set_rowQ (j := 10) (v := .string ⟨#[]⟩) hr7).trans rfl
  have hbb8 : Below w.heap.size w v8 := by rw [hv8]; exact hbb7.setCell (p := ⟨w2.heap.size, 10, none⟩) (Nat.le_of_lt hlt2) (.string ⟨#[]⟩)
  have HV8 := hide hv8
  clear hk7 hr7 hbb7 hv8
  obtain ⟨W, hv9⟩ : ∃ W, W = v8.setCell ⟨w2.heap.size, 11, none⟩ (.string ⟨#[]⟩) := ⟨_, rfl⟩
  have hk9 : W.heap[w.heap.size]? = some (.cells #[.int .i64 5, .string nm, .string dg, .int .i64 wn, .int .i64 sh, .int .i64 tr, .int .i64 am, .bool ca, .int .i64 dy, .int .i64 bt, .string no, .string ex, .string an, .string od] 25) := by rw [hv9, Below.heap_setCell v8 ⟨w2.heap.size, 11, none⟩ (.string ⟨#[]⟩) w.heap.size (by show w.heap.size ≠ w2.heap.size; omega)]; exact hk8
  have hr9 : W.heap[w2.heap.size]? = some (.cells #[.int .i64 0, .string nm, .string dg, .int .i64 0, .int .i64 0, .int .i64 0, .int .i64 0, .bool false, .int .i64 0, .int .i64 0, .string ⟨#[]⟩, .string ⟨#[]⟩, .string an, .string od] 25) := by rw [hv9]; exact (set_rowQ (j := 11) (v := .string ⟨#[]⟩) hr8).trans rfl
  have hbb9 : Below w.heap.size w W := by rw [hv9]; exact hbb8.setCell (p := ⟨w2.heap.size, 11, none⟩) (Nat.le_of_lt hlt2) (.string ⟨#[]⟩)
  have HV9 := hide hv9
  clear hk8 hr8 hbb8 hv9
  have HKW := hide hk9; have HRW := hide hr9; have HBW := hide hbb9
  clear hk9 hr9 hbb9
  have C11 := hide (fun (wq : World) (hq : Below W.heap.size W wq) => (cell_of_row _ _ 11 _ _ _ ((hq.block _ (block_ltQ (unhide HKW))).trans (unhide HKW)) : wq.cell? ⟨w.heap.size, 11, none⟩ = some (.string ex)))
  clear HK5 HR5 HB5
  go_wp2_with fail
  rw [← unhide HV1, ← unhide HV2, ← unhide HV3, ← unhide HV4, ← unhide HV5, ← unhide HV6, ← unhide HV7, ← unhide HV8, ← unhide HV9]
  clear y0 r0 y1 r1 y2 r2 y3 r3 y4 r4 y5 r5 y6 r6 y7 r7 y8 r8 y9 r9 y10 r10 y11 r11 y12 r12 y13 r13 rf
  refine wp_region_below W (Below.refl _ _) (by kernel_rfl) (by kernel_rfl) ?_
  repeat (
    refine Quietly.step (fun K hK => ?_)
    go_simp
    first
      | (refine hK _ ?_; clear hK K)
      | (apply Exists.intro
         refine ⟨fun w1 hw1 => ?_, hK _ ?_⟩
         (first | rfl | (rw [unhide C11 w1 hw1]; exact ⟨rfl, rfl⟩) | (go_at_call_of 15 (Value.int .i64 132); exact calls_below hw1 (unhide N5 _)) | (go_at_call_of 15 (Value.int .i64 133); exact calls_below hw1 (unhide N6 _)))
         clear hK K))
  refine Quietly.nil ?_
  intro w6 hw6
  have HK6 := hide ((hw6.block _ (block_ltQ (unhide HKW))).trans (unhide HKW))
  have HR6 := hide ((hw6.block _ (block_ltQ (unhide HRW))).trans (unhide HRW))
  have HB6 := hide (ext_callQ (unhide HBW) hw6)
  clear hw6 HKW HRW HBW
  have y0 : w6.cell? ⟨w.heap.size, 0, none⟩ = some (.int .i64 5) := cell_of_row _ _ 0 _ _ _ (unhide HK6)
  have y1 : w6.cell? ⟨w.heap.size, 1, none⟩ = some (.string nm) := cell_of_row _ _ 1 _ _ _ (unhide HK6)
  have y2 : w6.cell? ⟨w.heap.size, 2, none⟩ = some (.string dg) := cell_of_row _ _ 2 _ _ _ (unhide HK6)
  have y3 : w6.cell? ⟨w.heap.size, 3, none⟩ = some (.int .i64 wn) := cell_of_row _ _ 3 _ _ _ (unhide HK6)
  have y4 : w6.cell? ⟨w.heap.size, 4, none⟩ = some (.int .i64 sh) := cell_of_row _ _ 4 _ _ _ (unhide HK6)
  have y5 : w6.cell? ⟨w.heap.size, 5, none⟩ = some (.int .i64 tr) := cell_of_row _ _ 5 _ _ _ (unhide HK6)
  have y6 : w6.cell? ⟨w.heap.size, 6, none⟩ = some (.int .i64 am) := cell_of_row _ _ 6 _ _ _ (unhide HK6)
  have y7 : w6.cell? ⟨w.heap.size, 7, none⟩ = some (.bool ca) := cell_of_row _ _ 7 _ _ _ (unhide HK6)
  have y8 : w6.cell? ⟨w.heap.size, 8, none⟩ = some (.int .i64 dy) := cell_of_row _ _ 8 _ _ _ (unhide HK6)
  have y9 : w6.cell? ⟨w.heap.size, 9, none⟩ = some (.int .i64 bt) := cell_of_row _ _ 9 _ _ _ (unhide HK6)
  have y10 : w6.cell? ⟨w.heap.size, 10, none⟩ = some (.string no) := cell_of_row _ _ 10 _ _ _ (unhide HK6)
  have y11 : w6.cell? ⟨w.heap.size, 11, none⟩ = some (.string ex) := cell_of_row _ _ 11 _ _ _ (unhide HK6)
  have y12 : w6.cell? ⟨w.heap.size, 12, none⟩ = some (.string an) := cell_of_row _ _ 12 _ _ _ (unhide HK6)
  have y13 : w6.cell? ⟨w.heap.size, 13, none⟩ = some (.string od) := cell_of_row _ _ 13 _ _ _ (unhide HK6)
  have r0 : w6.cell? ⟨w2.heap.size, 0, none⟩ = some (.int .i64 0) := cell_of_row _ _ 0 _ _ _ (unhide HR6)
  have r1 : w6.cell? ⟨w2.heap.size, 1, none⟩ = some (.string nm) := cell_of_row _ _ 1 _ _ _ (unhide HR6)
  have r2 : w6.cell? ⟨w2.heap.size, 2, none⟩ = some (.string dg) := cell_of_row _ _ 2 _ _ _ (unhide HR6)
  have r3 : w6.cell? ⟨w2.heap.size, 3, none⟩ = some (.int .i64 0) := cell_of_row _ _ 3 _ _ _ (unhide HR6)
  have r4 : w6.cell? ⟨w2.heap.size, 4, none⟩ = some (.int .i64 0) := cell_of_row _ _ 4 _ _ _ (unhide HR6)
  have r5 : w6.cell? ⟨w2.heap.size, 5, none⟩ = some (.int .i64 0) := cell_of_row _ _ 5 _ _ _ (unhide HR6)
  have r6 : w6.cell? ⟨w2.heap.size, 6, none⟩ = some (.int .i64 0) := cell_of_row _ _ 6 _ _ _ (unhide HR6)
  have r7 : w6.cell? ⟨w2.heap.size, 7, none⟩ = some (.bool false) := cell_of_row _ _ 7 _ _ _ (unhide HR6)
  have r8 : w6.cell? ⟨w2.heap.size, 8, none⟩ = some (.int .i64 0) := cell_of_row _ _ 8 _ _ _ (unhide HR6)
  have r9 : w6.cell? ⟨w2.heap.size, 9, none⟩ = some (.int .i64 0) := cell_of_row _ _ 9 _ _ _ (unhide HR6)
  have r10 : w6.cell? ⟨w2.heap.size, 10, none⟩ = some (.string ⟨#[]⟩) := cell_of_row _ _ 10 _ _ _ (unhide HR6)
  have r11 : w6.cell? ⟨w2.heap.size, 11, none⟩ = some (.string ⟨#[]⟩) := cell_of_row _ _ 11 _ _ _ (unhide HR6)
  have r12 : w6.cell? ⟨w2.heap.size, 12, none⟩ = some (.string an) := cell_of_row _ _ 12 _ _ _ (unhide HR6)
  have r13 : w6.cell? ⟨w2.heap.size, 13, none⟩ = some (.string od) := cell_of_row _ _ 13 _ _ _ (unhide HR6)
  go_wp2
  exact bodyPost_ret (v := .tuple #[.string ⟨#[]⟩, .int .i64 1]) (by simp [results, Try.results5, go_sem]) rfl ⟨rfl, unhide HB6⟩
end Go.Proofs.Ytamamlpicookiah
namespace Go.Proofs.Ytamamlpicookiah
open Go.RowKit
set_option linter.unusedVariables false

set_option maxRecDepth 100000 in
set_option maxHeartbeats 4000000 in
theorem rcmdN6 (nm dg : ByteArray) (wn sh tr am : Int) (ca : Bool) (dy bt : Int) (no ex an od : ByteArray) (w : World) (hbk : nm.size + dg.size + no.size + ex.size + an.size + od.size ≤ 0x100000) (hbe : decide ((⟨0, nm, dg, 0, ⟨sh, tr, am, ca, dy, bt, no⟩, ex, ⟨#[]⟩, od⟩ : XCommand) = zeroC) = false) :
    Calls Try.prog 5 #[.agg #[.int .i64 6, .string nm, .string dg, .int .i64 wn, .int .i64 sh, .int .i64 tr, .int .i64 am, .bool ca, .int .i64 dy, .int .i64 bt, .string no, .string ex, .string an, .string od]] w fun e w' => e = .returned (.tuple #[.string ⟨#[]⟩, .int .i64 1]) ∧ Below w.heap.size w w' := by
  have hne := fun w => neq_lit ⟨0, nm, dg, 0, ⟨sh, tr, am, ca, dy, bt, no⟩, ex, ⟨#[]⟩, od⟩ zeroC (.agg #[.int .i64 0, .string nm, .string dg, .int .i64 0, .int .i64 sh, .int .i64 tr, .int .i64 am, .bool ca, .int .i64 dy, .int .i64 bt, .string no, .string ex, .string ⟨#[]⟩, .string od]) (.agg #[.int .i64 0, .string ⟨#[]⟩, .string ⟨#[]⟩, .int .i64 0, .int .i64 0, .int .i64 0, .int .i64 0, .bool false, .int .i64 0, .int .i64 0, .string ⟨#[]⟩, .string ⟨#[]⟩, .string ⟨#[]⟩, .string ⟨#[]⟩]) rfl rfl w
  rw [hbe, Bool.not_false] at hne
  clear hbe
  have n1 := fun b cap w c0 => bytes1T 6 (by decide) b cap w c0
  have n2 := fun w => ritem_any 128 (strOfNums [6]) w (by decide) (by rw [strOfNums_size]; simp)
  have n3 := fun b cap w (c0 : w.cell? ⟨b, 0, none⟩ = some (.int .i64 wn)) => bytes_one wn b 0 cap w (World.block_lt_of_cell? w _ c0) c0
  have n4 := fun w => ritem_any 131 (strOfNums [lowByte wn]) w (by decide) (by rw [strOfNums_size]; simp)
  have zi := itS_size 128 (strOfNums [6])
  have zw := itS_size 131 (strOfNums [lowByte wn])
  have zn : (strOfNums [6]).size = 1 := by rw [strOfNums_size]; rfl
  have zl : (strOfNums [lowByte wn]).size = 1 := by rw [strOfNums_size]; rfl
  have ze : lenLen 1 = 1 := rfl
  rw [zn, ze] at zi
  rw [zl, ze] at zw
  have n5 := fun w => ritem_any 134 an w (by decide) (by omega)
  have z5 := itS_size 134 an
  have l5 := lenLen_le an.size
  generalize itS 128 (strOfNums [6]) = a1 at *
  generalize itS 131 (strOfNums [lowByte wn]) = a2 at *
  generalize strOfNums [6] = p1 at *
  generalize strOfNums [lowByte wn] = p2 at *
  generalize itS 134 an = a3 at *
  have ha0 := fun w' => run_string_add_sum (P := Try.prog) w' a2 a3 (by first | omega | (simp only [ByteArray.size_append]; omega))
  have ha1 := fun w' => run_string_add_sum (P := Try.prog) w' a1 (a2 ++ a3) (by first | omega | (simp only [ByteArray.size_append]; omega))
  have N1 := hide n1; have N2 := hide n2; have N3 := hide n3; have N4 := hide n4; have N5 := hide n5
  clear n1 n2 n3 n4 n5 zi zw zn zl ze z5 l5
  have HB0 := hide ((Below.refl w.heap.size w).alloc (Nat.le_refl _) (.cells #[.int .i64 6, .string nm, .string dg, .int .i64 wn, .int .i64 sh, .int .i64 tr, .int .i64 am, .bool ca, .int .i64 dy, .int .i64 bt, .string no, .string ex, .string an, .string od] 25))
  go_enter Try.func5, Try.ntmps5
  go_wp2_with fail
  refine (unhide N1 _ _ _ (new_cellQ (by simp) rfl)).mono ?_
  rintro e w1 ⟨rfl, hb1⟩
  have hk0 := hb1.block w.heap.size (by simp; omega)
  have HK1 : Hid (w1.heap[w.heap.size]? = some (.cells #[.int .i64 6, .string nm, .string dg, .int .i64 wn, .int .i64 sh, .int .i64 tr, .int .i64 am, .bool ca, .int .i64 dy, .int .i64 bt, .string no, .string ex, .string an, .string od] 25)) := hide (by rw [hk0]; exact (two_newP w _ _).1)
  have HB1 := hide (ext_callQ (ext_allocQ (unhide HB0) _) hb1)
  clear hb1 hk0 HB0
  go_wp2_with fail
  refine (unhide N2 _).mono ?_
  rintro e w2 ⟨rfl, hb2⟩
  have HK2 := hide ((hb2.block _ (block_ltQ (unhide HK1))).trans (unhide HK1))
  have HB2 := hide (ext_callQ (unhide HB1) hb2)
  have y0 : w2.cell? ⟨w.heap.size, 0, none⟩ = some (.int .i64 6) := cell_of_row _ _ 0 _ _ _ (unhide HK2)
  have y1 : w2.cell? ⟨w.heap.size, 1, none⟩ = some (.string nm) := cell_of_row _ _ 1 _ _ _ (unhide HK2)
  have y2 : w2.cell? ⟨w.heap.size, 2, none⟩ = some (.string dg) := cell_of_row _ _ 2 _ _ _ (unhide HK2)
  have y3 : w2.cell? ⟨w.heap.size, 3, none⟩ = some (.int .i64 wn) := cell_of_row _ _ 3 _ _ _ (unhide HK2)
  have y4 : w2.cell? ⟨w.heap.size, 4, none⟩ = some (.int .i64 sh) := cell_of_row _ _ 4 _ _ _ (unhide HK2)
  have y5 : w2.cell? ⟨w.heap.size, 5, none⟩ = some (.int .i64 tr) := cell_of_row _ _ 5 _ _ _ (unhide HK2)
  have y6 : w2.cell? ⟨w.heap.size, 6, none⟩ = some (.int .i64 am) := cell_of_row _ _ 6 _ _ _ (unhide HK2)
  have y7 : w2.cell? ⟨w.heap.size, 7, none⟩ = some (.bool ca) := cell_of_row _ _ 7 _ _ _ (unhide HK2)
  have y8 : w2.cell? ⟨w.heap.size, 8, none⟩ = some (.int .i64 dy) := cell_of_row _ _ 8 _ _ _ (unhide HK2)
  have y9 : w2.cell? ⟨w.heap.size, 9, none⟩ = some (.int .i64 bt) := cell_of_row _ _ 9 _ _ _ (unhide HK2)
  have y10 : w2.cell? ⟨w.heap.size, 10, none⟩ = some (.string no) := cell_of_row _ _ 10 _ _ _ (unhide HK2)
  have y11 : w2.cell? ⟨w.heap.size, 11, none⟩ = some (.string ex) := cell_of_row _ _ 11 _ _ _ (unhide HK2)
  have y12 : w2.cell? ⟨w.heap.size, 12, none⟩ = some (.string an) := cell_of_row _ _ 12 _ _ _ (unhide HK2)
  have y13 : w2.cell? ⟨w.heap.size, 13, none⟩ = some (.string od) := cell_of_row _ _ 13 _ _ _ (unhide HK2)
  have hlt2 : w.heap.size < w2.heap.size := block_ltQ (unhide HK2)
  have HKZ := hide (alloc_keepQT (o' := .cells #[.int .i64 0, .string nm, .string dg, .int .i64 wn, .int .i64 sh, .int .i64 tr, .int .i64 am, .bool ca, .int .i64 dy, .int .i64 bt, .string no, .string ex, .string an, .string od] 25) (unhide HK2))
  have x3 : (w2.alloc (.cells #[.int .i64 0, .string nm, .string dg, .int .i64 wn, .int .i64 sh, .int .i64 tr, .int .i64 am, .bool ca, .int .i64 dy, .int .i64 bt, .string no, .string ex, .string an, .string od] 25)).cell? ⟨w.heap.size, 3, none⟩ = some (.int .i64 wn) := cell_of_row _ _ 3 _ _ _ (unhide HKZ)
  have hne1 : ¬ w.heap.size = w2.heap.size := by omega
  have hne2 : ¬ w2.heap.size = w.heap.size := by omega
  clear hb2 HK1 HB1 N1 N2
  go_wp2_with fail
  refine (unhide N3 _ _ _ (new_cellQ (by simp) rfl)).mono ?_
  rintro e w3 ⟨rfl, hb3⟩
  have HK3 := hide ((hb3.block w.heap.size (by simp; omega)).trans (alloc_keepQT (unhide HKZ)))
  have HR3 : Hid (w3.heap[w2.heap.size]? = some (.cells #[.int .i64 0, .string nm, .string dg, .int .i64 wn, .int .i64 sh, .int .i64 tr, .int .i64 am, .bool ca, .int .i64 dy, .int .i64 bt, .string no, .string ex, .string an, .string od] 25)) := hide (by rw [hb3.block w2.heap.size (by simp; omega)]; exact (two_newP w2 _ _).1)
  have HB3 := hide (ext_callQ (ext_allocQ (ext_allocQ (unhide HB2) _) _) hb3)
  clear hb3 HKZ HB2 x3 y0 y1 y2 y3 y4 y5 y6 y7 y8 y9 y10 y11 y12 y13 HK2 N3
  go_wp2_with fail
  refine (unhide N4 _).mono ?_
  rintro e w4 ⟨rfl, hb4⟩
  have HK4 := hide ((hb4.block _ (block_ltQ (unhide HK3))).trans (unhide HK3))
  have HR4 := hide ((hb4.block _ (block_ltQ (unhide HR3))).trans (unhide HR3))
  have HB4 := hide (ext_callQ (unhide HB3) hb4)
  clear hb4 HK3 HR3 HB3 N4
  have y0 : w4.cell? ⟨w.heap.size, 0, none⟩ = some (.int .i64 6) := cell_of_row _ _ 0 _ _ _ (unhide HK4)
  have y1 : w4.cell? ⟨w.heap.size, 1, none⟩ = some (.string nm) := cell_of_row _ _ 1 _ _ _ (unhide HK4)
  have y2 : w4.cell? ⟨w.heap.size, 2, none⟩ = some (.string dg) := cell_of_row _ _ 2 _ _ _ (unhide HK4)
  have y3 : w4.cell? ⟨w.heap.size, 3, none⟩ = some (.int .i64 wn) := cell_of_row _ _ 3 _ _ _ (unhide HK4)
  have y4 : w4.cell? ⟨w.heap.size, 4, none⟩ = some (.int .i64 sh) := cell_of_row _ _ 4 _ _ _ (unhide HK4)
  have y5 : w4.cell? ⟨w.heap.size, 5, none⟩ = some (.int .i64 tr) := cell_of_row _ _ 5 _ _ _ (unhide HK4)
  have y6 : w4.cell? ⟨w.heap.size, 6, none⟩ = some (.int .i64 am) := cell_of_row _ _ 6 _ _ _ (unhide HK4)
  have y7 : w4.cell? ⟨w.heap.size, 7, none⟩ = some (.bool ca) := cell_of_row _ _ 7 _ _ _ (unhide HK4)
  have y8 : w4.cell? ⟨w.heap.size, 8, none⟩ = some (.int .i64 dy) := cell_of_row _ _ 8 _ _ _ (unhide HK4)
  have y9 : w4.cell? ⟨w.heap.size, 9, none⟩ = some (.int .i64 bt) := cell_of_row _ _ 9 _ _ _ (unhide HK4)
  have y10 : w4.cell? ⟨w.heap.size, 10, none⟩ = some (.string no) := cell_of_row _ _ 10 _ _ _ (unhide HK4)
  have y11 : w4.cell? ⟨w.heap.size, 11, none⟩ = some (.string ex) := cell_of_row _ _ 11 _ _ _ (unhide HK4)
  have y12 : w4.cell? ⟨w.heap.size, 12, none⟩ = some (.string an) := cell_of_row _ _ 12 _ _ _ (unhide HK4)
  have y13 : w4.cell? ⟨w.heap.size, 13, none⟩ = some (.string od) := cell_of_row _ _ 13 _ _ _ (unhide HK4)
  have r0 : w4.cell? ⟨w2.heap.size, 0, none⟩ = some (.int .i64 0) := cell_of_row _ _ 0 _ _ _ (unhide HR4)
  have r1 : w4.cell? ⟨w2.heap.size, 1, none⟩ = some (.string nm) := cell_of_row _ _ 1 _ _ _ (unhide HR4)
  have r2 : w4.cell? ⟨w2.heap.size, 2, none⟩ = some (.string dg) := cell_of_row _ _ 2 _ _ _ (unhide HR4)
  have r3 : w4.cell? ⟨w2.heap.size, 3, none⟩ = some (.int .i64 wn) := cell_of_row _ _ 3 _ _ _ (unhide HR4)
  have r4 : w4.cell? ⟨w2.heap.size, 4, none⟩ = some (.int .i64 sh) := cell_of_row _ _ 4 _ _ _ (unhide HR4)
  have r5 : w4.cell? ⟨w2.heap.size, 5, none⟩ = some (.int .i64 tr) := cell_of_row _ _ 5 _ _ _ (unhide HR4)
  have r6 : w4.cell? ⟨w2.heap.size, 6, none⟩ = some (.int .i64 am) := cell_of_row _ _ 6 _ _ _ (unhide HR4)
  have r7 : w4.cell? ⟨w2.heap.size, 7, none⟩ = some (.bool ca) := cell_of_row _ _ 7 _ _ _ (unhide HR4)
  have r8 : w4.cell? ⟨w2.heap.size, 8, none⟩ = some (.int .i64 dy) := cell_of_row _ _ 8 _ _ _ (unhide HR4)
  have r9 : w4.cell? ⟨w2.heap.size, 9, none⟩ = some (.int .i64 bt) := cell_of_row _ _ 9 _ _ _ (unhide HR4)
  have r10 : w4.cell? ⟨w2.heap.size, 10, none⟩ = some (.string no) := cell_of_row _ _ 10 _ _ _ (unhide HR4)
  have r11 : w4.cell? ⟨w2.heap.size, 11, none⟩ = some (.string ex) := cell_of_row _ _ 11 _ _ _ (unhide HR4)
  have r12 : w4.cell? ⟨w2.heap.size, 12, none⟩ = some (.string an) := cell_of_row _ _ 12 _ _ _ (unhide HR4)
  have r13 : w4.cell? ⟨w2.heap.size, 13, none⟩ = some (.string od) := cell_of_row _ _ 13 _ _ _ (unhide HR4)
  have rf : ∀ o, w4.frozen? ⟨w2.heap.size, o, none⟩ = false := fun o => frozen_of_row _ _ o _ _ (unhide HR4)
  go_wp2_with fail
  refine (unhide N5 _).mono ?_
  rintro e w5 ⟨rfl, hb5⟩
  have HK5 : Hid (w5.heap[w.heap.size]? = some (.cells #[.int .i64 6, .string nm, .string dg, .int .i64 wn, .int .i64 sh, .int .i64 tr, .int .i64 am, .bool ca, .int .i64 dy, .int .i64 bt, .string no, .string ex, .string an, .string od] 25)) := hide ((hb5.block _ (block_ltQ ((Below.heap_setCell _ _ _ _ (by show w.heap.size ≠ w2.heap.size; omega)).trans ((Below.heap_setCell _ _ _ _ (by show w.heap.size ≠ w2.heap.size; omega)).trans (unhide HK4))))).trans ((Below.heap_setCell _ _ _ _ (by show w.heap.size ≠ w2.heap.size; omega)).trans ((Below.heap_setCell _ _ _ _ (by show w.heap.size ≠ w2.heap.size; omega)).trans (unhide HK4))))
  have HR5 : Hid (w5.heap[w2.heap.size]? = some (.cells #[.int .i64 0, .string nm, .string dg, .int .i64 0, .int .i64 sh, .int .i64 tr, .int .i64 am, .bool ca, .int .i64 dy, .int .i64 bt, .string no, .string ex, .string ⟨#[]⟩, .string od] 25)) := hide ((hb5.block _ (block_ltQ (set_rowQ (j := 12) (v := .string ⟨#[]⟩) (set_rowQ (j := 3) (v := .int .i64 0) (unhide HR4))))).trans ((set_rowQ (j := 12) (v := .string ⟨#[]⟩) (set_rowQ (j := 3) (v := .int .i64 0) (unhide HR4))).trans rfl))
  have HB5 := hide (ext_callQ (((unhide HB4).setCell (p := ⟨w2.heap.size, 3, none⟩) (Nat.le_of_lt hlt2) (.int .i64 0)).setCell (p := ⟨w2.heap.size, 12, none⟩) (Nat.le_of_lt hlt2) (.string ⟨#[]⟩)) hb5)
  clear hb5 HK4 HR4 HB4 y0 r0 y1 r1 y2 r2 y3 r3 y4 r4 y5 r5 y6 r6 y7 r7 y8 r8 y9 r9 y10 r10 y11 r11 y12 r12 y13 r13 rf
  have y0 : w5.cell? ⟨w.heap.size, 0, none⟩ = some (.int .i64 6) := cell_of_row _ _ 0 _ _ _ (unhide HK5)
  have y1 : w5.cell? ⟨w.heap.size, 1, none⟩ = some (.string nm) := cell_of_row _ _ 1 _ _ _ (unhide HK5)
  have y2 : w5.cell? ⟨w.heap.size, 2, none⟩ = some (.string dg) := cell_of_row _ _ 2 _ _ _ (unhide HK5)
  have y3 : w5.cell? ⟨w.heap.size, 3, none⟩ = some (.int .i64 wn) := cell_of_row _ _ 3 _ _ _ (unhide HK5)
  have y4 : w5.cell? ⟨w.heap.size, 4, none⟩ = some (.int .i64 sh) := cell_of_row _ _ 4 _ _ _ (unhide HK5)
  have y5 : w5.cell? ⟨w.heap.size, 5, none⟩ = some (.int .i64 tr) := cell_of_row _ _ 5 _ _ _ (unhide HK5)
  have y6 : w5.cell? ⟨w.heap.size, 6, none⟩ = some (.int .i64 am) := cell_of_row _ _ 6 _ _ _ (unhide HK5)
  have y7 : w5.cell? ⟨w.heap.size, 7, none⟩ = some (.bool ca) := cell_of_row _ _ 7 _ _ _ (unhide HK5)
  have y8 : w5.cell? ⟨w.heap.size, 8, none⟩ = some (.int .i64 dy) := cell_of_row _ _ 8 _ _ _ (unhide HK5)
  have y9 : w5.cell? ⟨w.heap.size, 9, none⟩ = some (.int .i64 bt) := cell_of_row _ _ 9 _ _ _ (unhide HK5)
  have y10 : w5.cell? ⟨w.heap.size, 10, none⟩ = some (.string no) := cell_of_row _ _ 10 _ _ _ (unhide HK5)
  have y11 : w5.cell? ⟨w.heap.size, 11, none⟩ = some (.string ex) := cell_of_row _ _ 11 _ _ _ (unhide HK5)
  have y12 : w5.cell? ⟨w.heap.size, 12, none⟩ = some (.string an) := cell_of_row _ _ 12 _ _ _ (unhide HK5)
  have y13 : w5.cell? ⟨w.heap.size, 13, none⟩ = some (.string od) := cell_of_row _ _ 13 _ _ _ (unhide HK5)
  have r0 : w5.cell? ⟨w2.heap.size, 0, none⟩ = some (.int .i64 0) := cell_of_row _ _ 0 _ _ _ (unhide HR5)
  have r1 : w5.cell? ⟨w2.heap.size, 1, none⟩ = some (.string nm) := cell_of_row _ _ 1 _ _ _ (unhide HR5)
  have r2 : w5.cell? ⟨w2.heap.size, 2, none⟩ = some (.string dg) := cell_of_row _ _ 2 _ _ _ (unhide HR5)
  have r3 : w5.cell? ⟨w2.heap.size, 3, none⟩ = some (.int .i64 0) := cell_of_row _ _ 3 _ _ _ (unhide HR5)
  have r4 : w5.cell? ⟨w2.heap.size, 4, none⟩ = some (.int .i64 sh) := cell_of_row _ _ 4 _ _ _ (unhide HR5)
  have r5 : w5.cell? ⟨w2.heap.size, 5, none⟩ = some (.int .i64 tr) := cell_of_row _ _ 5 _ _ _ (unhide HR5)
  have r6 : w5.cell? ⟨w2.heap.size, 6, none⟩ = some (.int .i64 am) := cell_of_row _ _ 6 _ _ _ (unhide HR5)
  have r7 : w5.cell? ⟨w2.heap.size, 7, none⟩ = some (.bool ca) := cell_of_row _ _ 7 _ _ _ (unhide HR5)
  have r8 : w5.cell? ⟨w2.heap.size, 8, none⟩ = some (.int .i64 dy) := cell_of_row _ _ 8 _ _ _ (unhide HR5)
  have r9 : w5.cell? ⟨w2.heap.size, 9, none⟩ = some (.int .i64 bt) := cell_of_row _ _ 9 _ _ _ (unhide HR5)
  have r10 : w5.cell? ⟨w2.heap.size, 10, none⟩ = some (.string no) := cell_of_row _ _ 10 _ _ _ (unhide HR5)
  have r11 : w5.cell? ⟨w2.heap.size, 11, none⟩ = some (.string ex) := cell_of_row _ _ 11 _ _ _ (unhide HR5)
  have r12 : w5.cell? ⟨w2.heap.size, 12, none⟩ = some (.string ⟨#[]⟩) := cell_of_row _ _ 12 _ _ _ (unhide HR5)
  have r13 : w5.cell? ⟨w2.heap.size, 13, none⟩ = some (.string od) := cell_of_row _ _ 13 _ _ _ (unhide HR5)
  have rf : ∀ o, w5.frozen? ⟨w2.heap.size, o, none⟩ = false := fun o => frozen_of_row _ _ o _ _ (unhide HR5)
  go_wp2
  exact bodyPost_ret (v := .tuple #[.string ⟨#[]⟩, .int .i64 1]) (by simp [results, Try.results5, go_sem]) rfl ⟨rfl, unhide HB5⟩
set_option maxRecDepth 100000 in
set_option maxHeartbeats 4000000 in
theorem rcmdN7 (nm dg : ByteArray) (wn sh tr am : Int) (ca : Bool) (dy bt : Int) (no ex an od : ByteArray) (w : World) (hbk : nm.size + dg.size + no.size + ex.size + an.size + od.size ≤ 0x100000) (hbe : decide ((⟨0, nm, dg, wn, ⟨sh, tr, am, ca, dy, bt, no⟩, ex, an, ⟨#[]⟩⟩ : XCommand) = zeroC) = false) :
    Calls Try.prog 5 #[.agg #[.int .i64 7, .string nm, .string dg, .int .i64 wn, .int .i64 sh, .int .i64 tr, .int .i64 am, .bool ca, .int .i64 dy, .int .i64 bt, .string no, .string ex, .string an, .string od]] w fun e w' => e = .returned (.tuple #[.string ⟨#[]⟩, .int .i64 1]) ∧ Below w.heap.size w w' := by
  have hne := fun w => neq_lit ⟨0, nm, dg, wn, ⟨sh, tr, am, ca, dy, bt, no⟩, ex, an, ⟨#[]⟩⟩ zeroC (.agg #[.int .i64 0, .string nm, .string dg, .int .i64 wn, .int .i64 sh, .int .i64 tr, .int .i64 am, .bool ca, .int .i64 dy, .int .i64 bt, .string no, .string ex, .string an, .string ⟨#[]⟩]) (.agg #[.int .i64 0, .string ⟨#[]⟩, .string ⟨#[]⟩, .int .i64 0, .int .i64 0, .int .i64 0, .int .i64 0, .bool false, .int .i64 0, .int .i64 0, .string ⟨#[]⟩, .string ⟨#[]⟩, .string ⟨#[]⟩, .string ⟨#[]⟩]) rfl rfl w
  rw [hbe, Bool.not_false] at hne
  clear hbe
  have n1 := fun b cap w c0 => bytes1T 7 (by decide) b cap w c0
  have n2 := fun w => ritem_any 128 (strOfNums [7]) w (by decide) (by rw [strOfNums_size]; simp)
  have n3 := fun b cap w (c0 : w.cell? ⟨b, 0, none⟩ = some (.int .i64 wn)) => bytes_one wn b 0 cap w (World.block_lt_of_cell? w _ c0) c0
  have n4 := fun w => ritem_any 131 (strOfNums [lowByte wn]) w (by decide) (by rw [strOfNums_size]; simp)
  have zi := itS_size 128 (strOfNums [7])
  have zw := itS_size 131 (strOfNums [lowByte wn])
  have zn : (strOfNums [7]).size = 1 := by rw [strOfNums_size]; rfl
  have zl : (strOfNums [lowByte wn]).size = 1 := by rw [strOfNums_size]; rfl
  have ze : lenLen 1 = 1 := rfl
  rw [zn, ze] at zi
  rw [zl, ze] at zw
  have n5 := fun w => ritem_any 135 od w (by decide) (by omega)
  have z5 := itS_size 135 od
  have l5 := lenLen_le od.size
  generalize itS 128 (strOfNums [7]) = a1 at *
  generalize itS 131 (strOfNums [lowByte wn]) = a2 at *
  generalize strOfNums [7] = p1 at *
  generalize strOfNums [lowByte wn] = p2 at *
  generalize itS 135 od = a3 at *
  have ha0 := fun w' => run_string_add_sum (P := Try.prog) w' a1 a3 (by first | omega | (simp only [ByteArray.size_append]; omega))
  have N1 := hide n1; have N2 := hide n2; have N3 := hide n3; have N4 := hide n4; have N5 := hide n5
  clear n1 n2 n3 n4 n5 zi zw zn zl ze z5 l5
  have HB0 := hide ((Below.refl w.heap.size w).alloc (Nat.le_refl _) (.cells #[.int .i64 7, .string nm, .string dg, .int .i64 wn, .int .i64 sh, .int .i64 tr, .int .i64 am, .bool ca, .int .i64 dy, .int .i64 bt, .string no, .string ex, .string an, .string od] 25))
  go_enter Try.func5, Try.ntmps5
  go_wp2_with fail
  refine (unhide N1 _ _ _ (new_cellQ (by simp) rfl)).mono ?_
  rintro e w1 ⟨rfl, hb1⟩
  have hk0 := hb1.block w.heap.size (by simp; omega)
  have HK1 : Hid (w1.heap[w.heap.size]? = some (.cells #[.int .i64 7, .string nm, .string dg, .int .i64 wn, .int .i64 sh, .int .i64 tr, .int .i64 am, .bool ca, .int .i64 dy, .int .i64 bt, .string no, .string ex, .string an, .string od] 25)) := hide (by rw [hk0]; exact (two_newP w _ _).1)
  have HB1 := hide (ext_callQ (ext_allocQ (unhide HB0) _) hb1)
  clear hb1 hk0 HB0
  go_wp2_with fail
  refine (unhide N2 _).mono ?_
  rintro e w2 ⟨rfl, hb2⟩
  have HK2 := hide ((hb2.block _ (block_ltQ (unhide HK1))).trans (unhide HK1))
  have HB2 := hide (ext_callQ (unhide HB1) hb2)
  have y0 : w2.cell? ⟨w.heap.size, 0, none⟩ = some (.int .i64 7) := cell_of_row _ _ 0 _ _ _ (unhide HK2)
  have y1 : w2.cell? ⟨w.heap.size, 1, none⟩ = some (.string nm) := cell_of_row _ _ 1 _ _ _ (unhide HK2)
  have y2 : w2.cell? ⟨w.heap.size, 2, none⟩ = some (.string dg) := cell_of_row _ _ 2 _ _ _ (unhide HK2)
  have y3 : w2.cell? ⟨w.heap.size, 3, none⟩ = some (.int .i64 wn) := cell_of_row _ _ 3 _ _ _ (unhide HK2)
  have y4 : w2.cell? ⟨w.heap.size, 4, none⟩ = some (.int .i64 sh) := cell_of_row _ _ 4 _ _ _ (unhide HK2)
  have y5 : w2.cell? ⟨w.heap.size, 5, none⟩ = some (.int .i64 tr) := cell_of_row _ _ 5 _ _ _ (unhide HK2)
  have y6 : w2.cell? ⟨w.heap.size, 6, none⟩ = some (.int .i64 am) := cell_of_row _ _ 6 _ _ _ (unhide HK2)
  have y7 : w2.cell? ⟨w.heap.size, 7, none⟩ = some (.bool ca) := cell_of_row _ _ 7 _ _ _ (unhide HK2)
  have y8 : w2.cell? ⟨w.heap.size, 8, none⟩ = some (.int .i64 dy) := cell_of_row _ _ 8 _ _ _ (unhide HK2)
  have y9 : w2.cell? ⟨w.heap.size, 9, none⟩ = some (.int .i64 bt) := cell_of_row _ _ 9 _ _ _ (unhide HK2)
  have y10 : w2.cell? ⟨w.heap.size, 10, none⟩ = some (.string no) := cell_of_row _ _ 10 _ _ _ (unhide HK2)
  have y11 : w2.cell? ⟨w.heap.size, 11, none⟩ = some (.string ex) := cell_of_row _ _ 11 _ _ _ (unhide HK2)
  have y12 : w2.cell? ⟨w.heap.size, 12, none⟩ = some (.string an) := cell_of_row _ _ 12 _ _ _ (unhide HK2)
  have y13 : w2.cell? ⟨w.heap.size, 13, none⟩ = some (.string od) := cell_of_row _ _ 13 _ _ _ (unhide HK2)
  have hlt2 : w.heap.size < w2.heap.size := block_ltQ (unhide HK2)
  have HKZ := hide (alloc_keepQT (o' := .cells #[.int .i64 0, .string nm, .string dg, .int .i64 wn, .int .i64 sh, .int .i64 tr, .int .i64 am, .bool ca, .int .i64 dy, .int .i64 bt, .string no, .string ex, .string an, .string od] 25) (unhide HK2))
  have x3 : (w2.alloc (.cells #[.int .i64 0, .string nm, .string dg, .int .i64 wn, .int .i64 sh, .int .i64 tr, .int .i64 am, .bool ca, .int .i64 dy, .int .i64 bt, .string no, .string ex, .string an, .string od] 25)).cell? ⟨w.heap.size, 3, none⟩ = some (.int .i64 wn) := cell_of_row _ _ 3 _ _ _ (unhide HKZ)
  have hne1 : ¬ w.heap.size = w2.heap.size := by omega
  have hne2 : ¬ w2.heap.size = w.heap.size := by omega
  clear hb2 HK1 HB1 N1 N2
  go_wp2_with fail
  refine (unhide N3 _ _ _ (new_cellQ (by simp) rfl)).mono ?_
  rintro e w3 ⟨rfl, hb3⟩
  have HK3 := hide ((hb3.block w.heap.size (by simp; omega)).trans (alloc_keepQT (unhide HKZ)))
  have HR3 : Hid (w3.heap[w2.heap.size]? = some (.cells #[.int .i64 0, .string nm, .string dg, .int .i64 wn, .int .i64 sh, .int .i64 tr, .int .i64 am, .bool ca, .int .i64 dy, .int .i64 bt, .string no, .string ex, .string an, .string od] 25)) := hide (by rw [hb3.block w2.heap.size (by simp; omega)]; exact (two_newP w2 _ _).1)
  have HB3 := hide (ext_callQ (ext_allocQ (ext_allocQ (unhide HB2) _) _) hb3)
  clear hb3 HKZ HB2 x3 y0 y1 y2 y3 y4 y5 y6 y7 y8 y9 y10 y11 y12 y13 HK2 N3
  go_wp2_with fail
  refine (unhide N4 _).mono ?_
  rintro e w4 ⟨rfl, hb4⟩
  have HK4 := hide ((hb4.block _ (block_ltQ (unhide HK3))).trans (unhide HK3))
  have HR4 := hide ((hb4.block _ (block_ltQ (unhide HR3))).trans (unhide HR3))
  have HB4 := hide (ext_callQ (unhide HB3) hb4)
  clear hb4 HK3 HR3 HB3 N4
  have y0 : w4.cell? ⟨w.heap.size, 0, none⟩ = some (.int .i64 7) := cell_of_row _ _ 0 _ _ _ (unhide HK4)
  have y1 : w4.cell? ⟨w.heap.size, 1, none⟩ = some (.string nm) := cell_of_row _ _ 1 _ _ _ (unhide HK4)
  have y2 : w4.cell? ⟨w.heap.size, 2, none⟩ = some (.string dg) := cell_of_row _ _ 2 _ _ _ (unhide HK4)
  have y3 : w4.cell? ⟨w.heap.size, 3, none⟩ = some (.int .i64 wn) := cell_of_row _ _ 3 _ _ _ (unhide HK4)
  have y4 : w4.cell? ⟨w.heap.size, 4, none⟩ = some (.int .i64 sh) := cell_of_row _ _ 4 _ _ _ (unhide HK4)
  have y5 : w4.cell? ⟨w.heap.size, 5, none⟩ = some (.int .i64 tr) := cell_of_row _ _ 5 _ _ _ (unhide HK4)
  have y6 : w4.cell? ⟨w.heap.size, 6, none⟩ = some (.int .i64 am) := cell_of_row _ _ 6 _ _ _ (unhide HK4)
  have y7 : w4.cell? ⟨w.heap.size, 7, none⟩ = some (.bool ca) := cell_of_row _ _ 7 _ _ _ (unhide HK4)
  have y8 : w4.cell? ⟨w.heap.size, 8, none⟩ = some (.int .i64 dy) := cell_of_row _ _ 8 _ _ _ (unhide HK4)
  have y9 : w4.cell? ⟨w.heap.size, 9, none⟩ = some (.int .i64 bt) := cell_of_row _ _ 9 _ _ _ (unhide HK4)
  have y10 : w4.cell? ⟨w.heap.size, 10, none⟩ = some (.string no) := cell_of_row _ _ 10 _ _ _ (unhide HK4)
  have y11 : w4.cell? ⟨w.heap.size, 11, none⟩ = some (.string ex) := cell_of_row _ _ 11 _ _ _ (unhide HK4)
  have y12 : w4.cell? ⟨w.heap.size, 12, none⟩ = some (.string an) := cell_of_row _ _ 12 _ _ _ (unhide HK4)
  have y13 : w4.cell? ⟨w.heap.size, 13, none⟩ = some (.string od) := cell_of_row _ _ 13 _ _ _ (unhide HK4)
  have r0 : w4.cell? ⟨w2.heap.size, 0, none⟩ = some (.int .i64 0) := cell_of_row _ _ 0 _ _ _ (unhide HR4)
  have r1 : w4.cell? ⟨w2.heap.size, 1, none⟩ = some (.string nm) := cell_of_row _ _ 1 _ _ _ (unhide HR4)
  have r2 : w4.cell? ⟨w2.heap.size, 2, none⟩ = some (.string dg) := cell_of_row _ _ 2 _ _ _ (unhide HR4)
  have r3 : w4.cell? ⟨w2.heap.size, 3, none⟩ = some (.int .i64 wn) := cell_of_row _ _ 3 _ _ _ (unhide HR4)
  have r4 : w4.cell? ⟨w2.heap.size, 4, none⟩ = some (.int .i64 sh) := cell_of_row _ _ 4 _ _ _ (unhide HR4)
  have r5 : w4.cell? ⟨w2.heap.size, 5, none⟩ = some (.int .i64 tr) := cell_of_row _ _ 5 _ _ _ (unhide HR4)
  have r6 : w4.cell? ⟨w2.heap.size, 6, none⟩ = some (.int .i64 am) := cell_of_row _ _ 6 _ _ _ (unhide HR4)
  have r7 : w4.cell? ⟨w2.heap.size, 7, none⟩ = some (.bool ca) := cell_of_row _ _ 7 _ _ _ (unhide HR4)
  have r8 : w4.cell? ⟨w2.heap.size, 8, none⟩ = some (.int .i64 dy) := cell_of_row _ _ 8 _ _ _ (unhide HR4)
  have r9 : w4.cell? ⟨w2.heap.size, 9, none⟩ = some (.int .i64 bt) := cell_of_row _ _ 9 _ _ _ (unhide HR4)
  have r10 : w4.cell? ⟨w2.heap.size, 10, none⟩ = some (.string no) := cell_of_row _ _ 10 _ _ _ (unhide HR4)
  have r11 : w4.cell? ⟨w2.heap.size, 11, none⟩ = some (.string ex) := cell_of_row _ _ 11 _ _ _ (unhide HR4)
  have r12 : w4.cell? ⟨w2.heap.size, 12, none⟩ = some (.string an) := cell_of_row _ _ 12 _ _ _ (unhide HR4)
  have r13 : w4.cell? ⟨w2.heap.size, 13, none⟩ = some (.string od) := cell_of_row _ _ 13 _ _ _ (unhide HR4)
  have rf : ∀ o, w4.frozen? ⟨w2.heap.size, o, none⟩ = false := fun o => frozen_of_row _ _ o _ _ (unhide HR4)
  go_wp2_with fail
  refine (unhide N5 _).mono ?_
  rintro e w5 ⟨rfl, hb5⟩
  have HK5 : Hid (w5.heap[w.heap.size]? = some (.cells #[.int .i64 7, .string nm, .string dg, .int .i64 wn, .int .i64 sh, .int .i64 tr, .int .i64 am, .bool ca, .int .i64 dy, .int .i64 bt, .string no, .string ex, .string an, .string od] 25)) := hide ((hb5.block _ (block_ltQ ((Below.heap_setCell _ _ _ _ (by show w.heap.size ≠ w2.heap.size; omega)).trans (unhide HK4)))).trans ((Below.heap_setCell _ _ _ _ (by show w.heap.size ≠ w2.heap.size; omega)).trans (unhide HK4)))
  have HR5 : Hid (w5.heap[w2.heap.size]? = some (.cells #[.int .i64 0, .string nm, .string dg, .int .i64 wn, .int .i64 sh, .int .i64 tr, .int .i64 am, .bool ca, .int .i64 dy, .int .i64 bt, .string no, .string ex, .string an, .string ⟨#[]⟩] 25)) := hide ((hb5.block _ (block_ltQ (set_rowQ (j := 13) (v := .string ⟨#[]⟩) (unhide HR4)))).trans ((set_rowQ (j := 13) (v := .string ⟨#[]⟩) (unhide HR4)).trans rfl))
  have HB5 := hide (ext_callQ ((unhide HB4).setCell (p := ⟨w2.heap.size, 13, none⟩) (Nat.le_of_lt hlt2) (.string ⟨#[]⟩)) hb5)
  clear hb5 HK4 HR4 HB4 y0 r0 y1 r1 y2 r2 y3 r3 y4 r4 y5 r5 y6 r6 y7 r7 y8 r8 y9 r9 y10 r10 y11 r11 y12 r12 y13 r13 rf
  have y0 : w5.cell? ⟨w.heap.size, 0, none⟩ = some (.int .i64 7) := cell_of_row _ _ 0 _ _ _ (unhide HK5)
  have y1 : w5.cell? ⟨w.heap.size, 1, none⟩ = some (.string nm) := cell_of_row _ _ 1 _ _ _ (unhide HK5)
  have y2 : w5.cell? ⟨w.heap.size, 2, none⟩ = some (.string dg) := cell_of_row _ _ 2 _ _ _ (unhide HK5)
  have y3 : w5.cell? ⟨w.heap.size, 3, none⟩ = some (.int .i64 wn) := cell_of_row _ _ 3 _ _ _ (unhide HK5)
  have y4 : w5.cell? ⟨w.heap.size, 4, none⟩ = some (.int .i64 sh) := cell_of_row _ _ 4 _ _ _ (unhide HK5)
  have y5 : w5.cell? ⟨w.heap.size, 5, none⟩ = some (.int .i64 tr) := cell_of_row _ _ 5 _ _ _ (unhide HK5)
  have y6 : w5.cell? ⟨w.heap.size, 6, none⟩ = some (.int .i64 am) := cell_of_row _ _ 6 _ _ _ (unhide HK5)
  have y7 : w5.cell? ⟨w.heap.size, 7, none⟩ = some (.bool ca) := cell_of_row _ _ 7 _ _ _ (unhide HK5)
  have y8 : w5.cell? ⟨w.heap.size, 8, none⟩ = some (.int .i64 dy) := cell_of_row _ _ 8 _ _ _ (unhide HK5)
  have y9 : w5.cell? ⟨w.heap.size, 9, none⟩ = some (.int .i64 bt) := cell_of_row _ _ 9 _ _ _ (unhide HK5)
  have y10 : w5.cell? ⟨w.heap.size, 10, none⟩ = some (.string no) := cell_of_row _ _ 10 _ _ _ (unhide HK5)
  have y11 : w5.cell? ⟨w.heap.size, 11, none⟩ = some (.string ex) := cell_of_row _ _ 11 _ _ _ (unhide HK5)
  have y12 : w5.cell? ⟨w.heap.size, 12, none⟩ = some (.string an) := cell_of_row _ _ 12 _ _ _ (unhide HK5)
  have y13 : w5.cell? ⟨w.heap.size, 13, none⟩ = some (.string od) := cell_of_row _ _ 13 _ _ _ (unhide HK5)
  have r0 : w5.cell? ⟨w2.heap.size, 0, none⟩ = some (.int .i64 0) := cell_of_row _ _ 0 _ _ _ (unhide HR5)
  have r1 : w5.cell? ⟨w2.heap.size, 1, none⟩ = some (.string nm) := cell_of_row _ _ 1 _ _ _ (unhide HR5)
  have r2 : w5.cell? ⟨w2.heap.size, 2, none⟩ = some (.string dg) := cell_of_row _ _ 2 _ _ _ (unhide HR5)
  have r3 : w5.cell? ⟨w2.heap.size, 3, none⟩ = some (.int .i64 wn) := cell_of_row _ _ 3 _ _ _ (unhide HR5)
  have r4 : w5.cell? ⟨w2.heap.size, 4, none⟩ = some (.int .i64 sh) := cell_of_row _ _ 4 _ _ _ (unhide HR5)
  have r5 : w5.cell? ⟨w2.heap.size, 5, none⟩ = some (.int .i64 tr) := cell_of_row _ _ 5 _ _ _ (unhide HR5)
  have r6 : w5.cell? ⟨w2.heap.size, 6, none⟩ = some (.int .i64 am) := cell_of_row _ _ 6 _ _ _ (unhide HR5)
  have r7 : w5.cell? ⟨w2.heap.size, 7, none⟩ = some (.bool ca) := cell_of_row _ _ 7 _ _ _ (unhide HR5)
  have r8 : w5.cell? ⟨w2.heap.size, 8, none⟩ = some (.int .i64 dy) := cell_of_row _ _ 8 _ _ _ (unhide HR5)
  have r9 : w5.cell? ⟨w2.heap.size, 9, none⟩ = some (.int .i64 bt) := cell_of_row _ _ 9 _ _ _ (unhide HR5)
  have r10 : w5.cell? ⟨w2.heap.size, 10, none⟩ = some (.string no) := cell_of_row _ _ 10 _ _ _ (unhide HR5)
  have r11 : w5.cell? ⟨w2.heap.size, 11, none⟩ = some (.string ex) := cell_of_row _ _ 11 _ _ _ (unhide HR5)
  have r12 : w5.cell? ⟨w2.heap.size, 12, none⟩ = some (.string an) := cell_of_row _ _ 12 _ _ _ (unhide HR5)
  have r13 : w5.cell? ⟨w2.heap.size, 13, none⟩ = some (.string ⟨#[]⟩) := cell_of_row _ _ 13 _ _ _ (unhide HR5)
  have rf : ∀ o, w5.frozen? ⟨w2.heap.size, o, none⟩ = false := fun o => frozen_of_row _ _ o _ _ (unhide HR5)
  go_wp2
  exact bodyPost_ret (v := .tuple #[.string ⟨#[]⟩, .int .i64 1]) (by simp [results, Try.results5, go_sem]) rfl ⟨rfl, unhide HB5⟩
end Go.Proofs.Ytamamlpicookiah
