/- The reference: Command, the walk, of what is well formed. -/
import Derived.Test.YtfpglpefofcdeaaDoorM42
namespace Go.Proofs.YtfpglpefofcdeaaDoor
open Go.RowKit
set_option linter.unusedVariables false

set_option maxRecDepth 100000 in
set_option maxHeartbeats 4000000 in
theorem rcmdY1  (w : World)  :
    Calls Tryd.prog 33 #[.agg #[.int .i64 1, .string ⟨#[]⟩, .string ⟨#[]⟩, .int .i64 0, .int .i64 0, .int .i64 0, .int .i64 0, .bool false, .int .i64 0, .int .i64 0, .string ⟨#[]⟩, .string ⟨#[]⟩, .string ⟨#[]⟩, .string ⟨#[]⟩]] w fun e w' => e = .returned (.tuple #[.string (tellS 161 [(128, numS 1 1)] 0), .int .i64 (tellE 161 [(128, numS 1 1)] 0)]) ∧ Below w.heap.size w w' := by
  obtain ⟨E, hE⟩ : ∃ E, E = tellE 161 [(128, numS 1 1)] 0 := ⟨_, rfl⟩
  obtain ⟨S, hS⟩ : ∃ S, S = tellS 161 [(128, numS 1 1)] 0 := ⟨_, rfl⟩
  rw [← hE, ← hS]
  have n1 := fun b cap w c0 => bytes1T 1 (by decide) b cap w c0
  have n2 := fun w => ritem_any 128 (strOfNums [1]) w (by decide) (by rw [strOfNums_size]; simp)
  have n3 := fun b cap w (c0 : w.cell? ⟨b, 0, none⟩ = some (.int .i64 0)) => bytes_one 0 b 0 cap w (World.block_lt_of_cell? w _ c0) c0
  have n4 := fun w => ritem_any 131 (strOfNums [lowByte 0]) w (by decide) (by rw [strOfNums_size]; simp)
  have zi := itS_size 128 (strOfNums [1])
  have zw := itS_size 131 (strOfNums [lowByte 0])
  have zn : (strOfNums [1]).size = 1 := by rw [strOfNums_size]; rfl
  have zl : (strOfNums [lowByte 0]).size = 1 := by rw [strOfNums_size]; rfl
  have ze : lenLen 1 = 1 := rfl
  rw [zn, ze] at zi
  rw [zl, ze] at zw
  have n8 := fun w => router_any 161 (itS 128 (strOfNums [1])) w (by decide) (by omega)
  have e1 : numS 1 1 = strOfNums [1] := (num_one (by decide)).1
  have hgd : goodL [(128, numS 1 1)] := (goodL_cons good_128 goodL_nil)
  have HT : Hid (E = outE 161 (itS 128 (strOfNums [1])) ∧ S = outS 161 (itS 128 (strOfNums [1]))) := hide (by
    have h := tell_out [(128, numS 1 1)] hgd
    have hI : inL [(128, numS 1 1)] = (itS 128 (strOfNums [1])) := by
      simp only [inL, app_nil, e1]
    rw [hI] at h
    exact ⟨hE.trans h.1, hS.trans h.2⟩)
  clear e1 hgd
  have HES := hide (And.intro hE hS)
  clear hE hS
  generalize itS 128 (strOfNums [1]) = a1 at *
  generalize itS 131 (strOfNums [lowByte 0]) = a2 at *
  generalize strOfNums [1] = p1 at *
  generalize strOfNums [lowByte 0] = p2 at *
  have N1 := hide n1; have N2 := hide n2; have N3 := hide n3; have N4 := hide n4; have N8 := hide n8
  clear n1 n2 n3 n4 n8 zi zw zn zl ze
  have HB0 := hide ((Below.refl w.heap.size w).alloc (Nat.le_refl _) (.cells #[.int .i64 1, .string ⟨#[]⟩, .string ⟨#[]⟩, .int .i64 0, .int .i64 0, .int .i64 0, .int .i64 0, .bool false, .int .i64 0, .int .i64 0, .string ⟨#[]⟩, .string ⟨#[]⟩, .string ⟨#[]⟩, .string ⟨#[]⟩] 80))
  go_enter Tryd.func33, Tryd.ntmps33
  go_wp2_with fail
  refine (unhide N1 _ _ _ (new_cellQ (by simp) rfl)).mono ?_
  rintro e w1 ⟨rfl, hb1⟩
  have hk0 := hb1.block w.heap.size (by simp; omega)
  have HK1 : Hid (w1.heap[w.heap.size]? = some (.cells #[.int .i64 1, .string ⟨#[]⟩, .string ⟨#[]⟩, .int .i64 0, .int .i64 0, .int .i64 0, .int .i64 0, .bool false, .int .i64 0, .int .i64 0, .string ⟨#[]⟩, .string ⟨#[]⟩, .string ⟨#[]⟩, .string ⟨#[]⟩] 80)) := hide (by rw [hk0]; exact (two_newP w _ _).1)
  have HB1 := hide (ext_callQ (ext_allocQ (unhide HB0) _) hb1)
  clear hb1 hk0 HB0
  go_wp2_with fail
  refine (unhide N2 _).mono ?_
  rintro e w2 ⟨rfl, hb2⟩
  have HK2 := hide ((hb2.block _ (block_ltQ (unhide HK1))).trans (unhide HK1))
  have HB2 := hide (ext_callQ (unhide HB1) hb2)
  have y0 : w2.cell? ⟨w.heap.size, 0, none⟩ = some (.int .i64 1) := cell_of_row _ _ 0 _ _ _ (unhide HK2)
  have y1 : w2.cell? ⟨w.heap.size, 1, none⟩ = some (.string ⟨#[]⟩) := cell_of_row _ _ 1 _ _ _ (unhide HK2)
  have y2 : w2.cell? ⟨w.heap.size, 2, none⟩ = some (.string ⟨#[]⟩) := cell_of_row _ _ 2 _ _ _ (unhide HK2)
  have y3 : w2.cell? ⟨w.heap.size, 3, none⟩ = some (.int .i64 0) := cell_of_row _ _ 3 _ _ _ (unhide HK2)
  have y4 : w2.cell? ⟨w.heap.size, 4, none⟩ = some (.int .i64 0) := cell_of_row _ _ 4 _ _ _ (unhide HK2)
  have y5 : w2.cell? ⟨w.heap.size, 5, none⟩ = some (.int .i64 0) := cell_of_row _ _ 5 _ _ _ (unhide HK2)
  have y6 : w2.cell? ⟨w.heap.size, 6, none⟩ = some (.int .i64 0) := cell_of_row _ _ 6 _ _ _ (unhide HK2)
  have y7 : w2.cell? ⟨w.heap.size, 7, none⟩ = some (.bool false) := cell_of_row _ _ 7 _ _ _ (unhide HK2)
  have y8 : w2.cell? ⟨w.heap.size, 8, none⟩ = some (.int .i64 0) := cell_of_row _ _ 8 _ _ _ (unhide HK2)
  have y9 : w2.cell? ⟨w.heap.size, 9, none⟩ = some (.int .i64 0) := cell_of_row _ _ 9 _ _ _ (unhide HK2)
  have y10 : w2.cell? ⟨w.heap.size, 10, none⟩ = some (.string ⟨#[]⟩) := cell_of_row _ _ 10 _ _ _ (unhide HK2)
  have y11 : w2.cell? ⟨w.heap.size, 11, none⟩ = some (.string ⟨#[]⟩) := cell_of_row _ _ 11 _ _ _ (unhide HK2)
  have y12 : w2.cell? ⟨w.heap.size, 12, none⟩ = some (.string ⟨#[]⟩) := cell_of_row _ _ 12 _ _ _ (unhide HK2)
  have y13 : w2.cell? ⟨w.heap.size, 13, none⟩ = some (.string ⟨#[]⟩) := cell_of_row _ _ 13 _ _ _ (unhide HK2)
  have hlt2 : w.heap.size < w2.heap.size := block_ltQ (unhide HK2)
  have HKZ := hide (alloc_keepQT (o' := .cells #[.int .i64 0, .string ⟨#[]⟩, .string ⟨#[]⟩, .int .i64 0, .int .i64 0, .int .i64 0, .int .i64 0, .bool false, .int .i64 0, .int .i64 0, .string ⟨#[]⟩, .string ⟨#[]⟩, .string ⟨#[]⟩, .string ⟨#[]⟩] 80) (unhide HK2))
  have x3 : (w2.alloc (.cells #[.int .i64 0, .string ⟨#[]⟩, .string ⟨#[]⟩, .int .i64 0, .int .i64 0, .int .i64 0, .int .i64 0, .bool false, .int .i64 0, .int .i64 0, .string ⟨#[]⟩, .string ⟨#[]⟩, .string ⟨#[]⟩, .string ⟨#[]⟩] 80)).cell? ⟨w.heap.size, 3, none⟩ = some (.int .i64 0) := cell_of_row _ _ 3 _ _ _ (unhide HKZ)
  have hne1 : ¬ w.heap.size = w2.heap.size := by omega
  have hne2 : ¬ w2.heap.size = w.heap.size := by omega
  clear hb2 HK1 HB1 N1 N2
  go_wp2_with fail
  refine (unhide N3 _ _ _ (new_cellQ (by simp) rfl)).mono ?_
  rintro e w3 ⟨rfl, hb3⟩
  have HK3 := hide ((hb3.block w.heap.size (by simp; omega)).trans (alloc_keepQT (unhide HKZ)))
  have HR3 : Hid (w3.heap[w2.heap.size]? = some (.cells #[.int .i64 0, .string ⟨#[]⟩, .string ⟨#[]⟩, .int .i64 0, .int .i64 0, .int .i64 0, .int .i64 0, .bool false, .int .i64 0, .int .i64 0, .string ⟨#[]⟩, .string ⟨#[]⟩, .string ⟨#[]⟩, .string ⟨#[]⟩] 80)) := hide (by rw [hb3.block w2.heap.size (by simp; omega)]; exact (two_newP w2 _ _).1)
  have HB3 := hide (ext_callQ (ext_allocQ (ext_allocQ (unhide HB2) _) _) hb3)
  clear hb3 HKZ HB2 x3 y0 y1 y2 y3 y4 y5 y6 y7 y8 y9 y10 y11 y12 y13 HK2 N3
  go_wp2_with fail
  refine (unhide N4 _).mono ?_
  rintro e w4 ⟨rfl, hb4⟩
  have HK4 := hide ((hb4.block _ (block_ltQ (unhide HK3))).trans (unhide HK3))
  have HR4 := hide ((hb4.block _ (block_ltQ (unhide HR3))).trans (unhide HR3))
  have HB4 := hide (ext_callQ (unhide HB3) hb4)
  clear hb4 HK3 HR3 HB3 N4
  have y0 : w4.cell? ⟨w.heap.size, 0, none⟩ = some (.int .i64 1) := cell_of_row _ _ 0 _ _ _ (unhide HK4)
  have y1 : w4.cell? ⟨w.heap.size, 1, none⟩ = some (.string ⟨#[]⟩) := cell_of_row _ _ 1 _ _ _ (unhide HK4)
  have y2 : w4.cell? ⟨w.heap.size, 2, none⟩ = some (.string ⟨#[]⟩) := cell_of_row _ _ 2 _ _ _ (unhide HK4)
  have y3 : w4.cell? ⟨w.heap.size, 3, none⟩ = some (.int .i64 0) := cell_of_row _ _ 3 _ _ _ (unhide HK4)
  have y4 : w4.cell? ⟨w.heap.size, 4, none⟩ = some (.int .i64 0) := cell_of_row _ _ 4 _ _ _ (unhide HK4)
  have y5 : w4.cell? ⟨w.heap.size, 5, none⟩ = some (.int .i64 0) := cell_of_row _ _ 5 _ _ _ (unhide HK4)
  have y6 : w4.cell? ⟨w.heap.size, 6, none⟩ = some (.int .i64 0) := cell_of_row _ _ 6 _ _ _ (unhide HK4)
  have y7 : w4.cell? ⟨w.heap.size, 7, none⟩ = some (.bool false) := cell_of_row _ _ 7 _ _ _ (unhide HK4)
  have y8 : w4.cell? ⟨w.heap.size, 8, none⟩ = some (.int .i64 0) := cell_of_row _ _ 8 _ _ _ (unhide HK4)
  have y9 : w4.cell? ⟨w.heap.size, 9, none⟩ = some (.int .i64 0) := cell_of_row _ _ 9 _ _ _ (unhide HK4)
  have y10 : w4.cell? ⟨w.heap.size, 10, none⟩ = some (.string ⟨#[]⟩) := cell_of_row _ _ 10 _ _ _ (unhide HK4)
  have y11 : w4.cell? ⟨w.heap.size, 11, none⟩ = some (.string ⟨#[]⟩) := cell_of_row _ _ 11 _ _ _ (unhide HK4)
  have y12 : w4.cell? ⟨w.heap.size, 12, none⟩ = some (.string ⟨#[]⟩) := cell_of_row _ _ 12 _ _ _ (unhide HK4)
  have y13 : w4.cell? ⟨w.heap.size, 13, none⟩ = some (.string ⟨#[]⟩) := cell_of_row _ _ 13 _ _ _ (unhide HK4)
  have r0 : w4.cell? ⟨w2.heap.size, 0, none⟩ = some (.int .i64 0) := cell_of_row _ _ 0 _ _ _ (unhide HR4)
  have r1 : w4.cell? ⟨w2.heap.size, 1, none⟩ = some (.string ⟨#[]⟩) := cell_of_row _ _ 1 _ _ _ (unhide HR4)
  have r2 : w4.cell? ⟨w2.heap.size, 2, none⟩ = some (.string ⟨#[]⟩) := cell_of_row _ _ 2 _ _ _ (unhide HR4)
  have r3 : w4.cell? ⟨w2.heap.size, 3, none⟩ = some (.int .i64 0) := cell_of_row _ _ 3 _ _ _ (unhide HR4)
  have r4 : w4.cell? ⟨w2.heap.size, 4, none⟩ = some (.int .i64 0) := cell_of_row _ _ 4 _ _ _ (unhide HR4)
  have r5 : w4.cell? ⟨w2.heap.size, 5, none⟩ = some (.int .i64 0) := cell_of_row _ _ 5 _ _ _ (unhide HR4)
  have r6 : w4.cell? ⟨w2.heap.size, 6, none⟩ = some (.int .i64 0) := cell_of_row _ _ 6 _ _ _ (unhide HR4)
  have r7 : w4.cell? ⟨w2.heap.size, 7, none⟩ = some (.bool false) := cell_of_row _ _ 7 _ _ _ (unhide HR4)
  have r8 : w4.cell? ⟨w2.heap.size, 8, none⟩ = some (.int .i64 0) := cell_of_row _ _ 8 _ _ _ (unhide HR4)
  have r9 : w4.cell? ⟨w2.heap.size, 9, none⟩ = some (.int .i64 0) := cell_of_row _ _ 9 _ _ _ (unhide HR4)
  have r10 : w4.cell? ⟨w2.heap.size, 10, none⟩ = some (.string ⟨#[]⟩) := cell_of_row _ _ 10 _ _ _ (unhide HR4)
  have r11 : w4.cell? ⟨w2.heap.size, 11, none⟩ = some (.string ⟨#[]⟩) := cell_of_row _ _ 11 _ _ _ (unhide HR4)
  have r12 : w4.cell? ⟨w2.heap.size, 12, none⟩ = some (.string ⟨#[]⟩) := cell_of_row _ _ 12 _ _ _ (unhide HR4)
  have r13 : w4.cell? ⟨w2.heap.size, 13, none⟩ = some (.string ⟨#[]⟩) := cell_of_row _ _ 13 _ _ _ (unhide HR4)
  have rf : ∀ o, w4.frozen? ⟨w2.heap.size, o, none⟩ = false := fun o => frozen_of_row _ _ o _ _ (unhide HR4)
  go_wp2_with fail
  refine (unhide N8 _).mono ?_
  rintro e wz ⟨rfl, hbz⟩
  have HBZ := hide (ext_callQ (unhide HB4) hbz)
  clear hbz
  go_wp2
  exact bodyPost_ret (v := .tuple #[.string (outS 161 a1), .int .i64 (outE 161 a1)]) (by simp [results, Tryd.results33, go_sem]) rfl ⟨ret_pairQ (unhide HT).2.symm (unhide HT).1.symm, unhide HBZ⟩
set_option maxRecDepth 100000 in
set_option maxHeartbeats 4000000 in
theorem rcmdY2 (nm : ByteArray) (w : World) (hbk : nm.size ≤ 0x100000) :
    Calls Tryd.prog 33 #[.agg #[.int .i64 2, .string nm, .string ⟨#[]⟩, .int .i64 0, .int .i64 0, .int .i64 0, .int .i64 0, .bool false, .int .i64 0, .int .i64 0, .string ⟨#[]⟩, .string ⟨#[]⟩, .string ⟨#[]⟩, .string ⟨#[]⟩]] w fun e w' => e = .returned (.tuple #[.string (tellS 161 [(128, numS 2 1), (129, nm)] 0), .int .i64 (tellE 161 [(128, numS 2 1), (129, nm)] 0)]) ∧ Below w.heap.size w w' := by
  obtain ⟨E, hE⟩ : ∃ E, E = tellE 161 [(128, numS 2 1), (129, nm)] 0 := ⟨_, rfl⟩
  obtain ⟨S, hS⟩ : ∃ S, S = tellS 161 [(128, numS 2 1), (129, nm)] 0 := ⟨_, rfl⟩
  rw [← hE, ← hS]
  have n1 := fun b cap w c0 => bytes1T 2 (by decide) b cap w c0
  have n2 := fun w => ritem_any 128 (strOfNums [2]) w (by decide) (by rw [strOfNums_size]; simp)
  have n3 := fun b cap w (c0 : w.cell? ⟨b, 0, none⟩ = some (.int .i64 0)) => bytes_one 0 b 0 cap w (World.block_lt_of_cell? w _ c0) c0
  have n4 := fun w => ritem_any 131 (strOfNums [lowByte 0]) w (by decide) (by rw [strOfNums_size]; simp)
  have zi := itS_size 128 (strOfNums [2])
  have zw := itS_size 131 (strOfNums [lowByte 0])
  have zn : (strOfNums [2]).size = 1 := by rw [strOfNums_size]; rfl
  have zl : (strOfNums [lowByte 0]).size = 1 := by rw [strOfNums_size]; rfl
  have ze : lenLen 1 = 1 := rfl
  rw [zn, ze] at zi
  rw [zl, ze] at zw
  have n5 := fun w => ritem_any 129 nm w (by decide) (by omega)
  have z5 := itS_size 129 nm
  have l5 := lenLen_le nm.size
  have n8 := fun w => router_any 161 ((itS 128 (strOfNums [2])) ++ itS 129 nm) w (by decide) (by simp only [ByteArray.size_append]; omega)
  have e1 : numS 2 1 = strOfNums [2] := (num_one (by decide)).1
  have hgd : goodL [(128, numS 2 1), (129, nm)] := (goodL_cons good_128 (goodL_cons good_129 goodL_nil))
  have HT : Hid (E = outE 161 ((itS 128 (strOfNums [2])) ++ itS 129 nm) ∧ S = outS 161 ((itS 128 (strOfNums [2])) ++ itS 129 nm)) := hide (by
    have h := tell_out [(128, numS 2 1), (129, nm)] hgd
    have hI : inL [(128, numS 2 1), (129, nm)] = ((itS 128 (strOfNums [2])) ++ itS 129 nm) := by
      simp only [inL, app_nil, e1]
    rw [hI] at h
    exact ⟨hE.trans h.1, hS.trans h.2⟩)
  have HLG := hide (fun (h : 65535 < nm.size) => tell_long (x := (129, nm)) hgd (by simp) h)
  clear e1 hgd
  have HES := hide (And.intro hE hS)
  clear hE hS
  generalize itS 128 (strOfNums [2]) = a1 at *
  generalize itS 131 (strOfNums [lowByte 0]) = a2 at *
  generalize strOfNums [2] = p1 at *
  generalize strOfNums [lowByte 0] = p2 at *
  generalize itS 129 nm = a3 at *
  have ha0 := fun w' => run_string_add_sum (P := Tryd.prog) w' a1 a3 (by first | omega | (simp only [ByteArray.size_append]; omega))
  have N1 := hide n1; have N2 := hide n2; have N3 := hide n3; have N4 := hide n4; have N5 := hide n5; have N8 := hide n8
  clear n1 n2 n3 n4 n5 n8 zi zw zn zl ze z5 l5
  have HB0 := hide ((Below.refl w.heap.size w).alloc (Nat.le_refl _) (.cells #[.int .i64 2, .string nm, .string ⟨#[]⟩, .int .i64 0, .int .i64 0, .int .i64 0, .int .i64 0, .bool false, .int .i64 0, .int .i64 0, .string ⟨#[]⟩, .string ⟨#[]⟩, .string ⟨#[]⟩, .string ⟨#[]⟩] 80))
  go_enter Tryd.func33, Tryd.ntmps33
  go_wp2_with fail
  refine (unhide N1 _ _ _ (new_cellQ (by simp) rfl)).mono ?_
  rintro e w1 ⟨rfl, hb1⟩
  have hk0 := hb1.block w.heap.size (by simp; omega)
  have HK1 : Hid (w1.heap[w.heap.size]? = some (.cells #[.int .i64 2, .string nm, .string ⟨#[]⟩, .int .i64 0, .int .i64 0, .int .i64 0, .int .i64 0, .bool false, .int .i64 0, .int .i64 0, .string ⟨#[]⟩, .string ⟨#[]⟩, .string ⟨#[]⟩, .string ⟨#[]⟩] 80)) := hide (by rw [hk0]; exact (two_newP w _ _).1)
  have HB1 := hide (ext_callQ (ext_allocQ (unhide HB0) _) hb1)
  clear hb1 hk0 HB0
  go_wp2_with fail
  refine (unhide N2 _).mono ?_
  rintro e w2 ⟨rfl, hb2⟩
  have HK2 := hide ((hb2.block _ (block_ltQ (unhide HK1))).trans (unhide HK1))
  have HB2 := hide (ext_callQ (unhide HB1) hb2)
  have y0 : w2.cell? ⟨w.heap.size, 0, none⟩ = some (.int .i64 2) := cell_of_row _ _ 0 _ _ _ (unhide HK2)
  have y1 : w2.cell? ⟨w.heap.size, 1, none⟩ = some (.string nm) := cell_of_row _ _ 1 _ _ _ (unhide HK2)
  have y2 : w2.cell? ⟨w.heap.size, 2, none⟩ = some (.string ⟨#[]⟩) := cell_of_row _ _ 2 _ _ _ (unhide HK2)
  have y3 : w2.cell? ⟨w.heap.size, 3, none⟩ = some (.int .i64 0) := cell_of_row _ _ 3 _ _ _ (unhide HK2)
  have y4 : w2.cell? ⟨w.heap.size, 4, none⟩ = some (.int .i64 0) := cell_of_row _ _ 4 _ _ _ (unhide HK2)
  have y5 : w2.cell? ⟨w.heap.size, 5, none⟩ = some (.int .i64 0) := cell_of_row _ _ 5 _ _ _ (unhide HK2)
  have y6 : w2.cell? ⟨w.heap.size, 6, none⟩ = some (.int .i64 0) := cell_of_row _ _ 6 _ _ _ (unhide HK2)
  have y7 : w2.cell? ⟨w.heap.size, 7, none⟩ = some (.bool false) := cell_of_row _ _ 7 _ _ _ (unhide HK2)
  have y8 : w2.cell? ⟨w.heap.size, 8, none⟩ = some (.int .i64 0) := cell_of_row _ _ 8 _ _ _ (unhide HK2)
  have y9 : w2.cell? ⟨w.heap.size, 9, none⟩ = some (.int .i64 0) := cell_of_row _ _ 9 _ _ _ (unhide HK2)
  have y10 : w2.cell? ⟨w.heap.size, 10, none⟩ = some (.string ⟨#[]⟩) := cell_of_row _ _ 10 _ _ _ (unhide HK2)
  have y11 : w2.cell? ⟨w.heap.size, 11, none⟩ = some (.string ⟨#[]⟩) := cell_of_row _ _ 11 _ _ _ (unhide HK2)
  have y12 : w2.cell? ⟨w.heap.size, 12, none⟩ = some (.string ⟨#[]⟩) := cell_of_row _ _ 12 _ _ _ (unhide HK2)
  have y13 : w2.cell? ⟨w.heap.size, 13, none⟩ = some (.string ⟨#[]⟩) := cell_of_row _ _ 13 _ _ _ (unhide HK2)
  have hlt2 : w.heap.size < w2.heap.size := block_ltQ (unhide HK2)
  have HKZ := hide (alloc_keepQT (o' := .cells #[.int .i64 0, .string nm, .string ⟨#[]⟩, .int .i64 0, .int .i64 0, .int .i64 0, .int .i64 0, .bool false, .int .i64 0, .int .i64 0, .string ⟨#[]⟩, .string ⟨#[]⟩, .string ⟨#[]⟩, .string ⟨#[]⟩] 80) (unhide HK2))
  have x3 : (w2.alloc (.cells #[.int .i64 0, .string nm, .string ⟨#[]⟩, .int .i64 0, .int .i64 0, .int .i64 0, .int .i64 0, .bool false, .int .i64 0, .int .i64 0, .string ⟨#[]⟩, .string ⟨#[]⟩, .string ⟨#[]⟩, .string ⟨#[]⟩] 80)).cell? ⟨w.heap.size, 3, none⟩ = some (.int .i64 0) := cell_of_row _ _ 3 _ _ _ (unhide HKZ)
  have hne1 : ¬ w.heap.size = w2.heap.size := by omega
  have hne2 : ¬ w2.heap.size = w.heap.size := by omega
  clear hb2 HK1 HB1 N1 N2
  go_wp2_with fail
  refine (unhide N3 _ _ _ (new_cellQ (by simp) rfl)).mono ?_
  rintro e w3 ⟨rfl, hb3⟩
  have HK3 := hide ((hb3.block w.heap.size (by simp; omega)).trans (alloc_keepQT (unhide HKZ)))
  have HR3 : Hid (w3.heap[w2.heap.size]? = some (.cells #[.int .i64 0, .string nm, .string ⟨#[]⟩, .int .i64 0, .int .i64 0, .int .i64 0, .int .i64 0, .bool false, .int .i64 0, .int .i64 0, .string ⟨#[]⟩, .string ⟨#[]⟩, .string ⟨#[]⟩, .string ⟨#[]⟩] 80)) := hide (by rw [hb3.block w2.heap.size (by simp; omega)]; exact (two_newP w2 _ _).1)
  have HB3 := hide (ext_callQ (ext_allocQ (ext_allocQ (unhide HB2) _) _) hb3)
  clear hb3 HKZ HB2 x3 y0 y1 y2 y3 y4 y5 y6 y7 y8 y9 y10 y11 y12 y13 HK2 N3
  go_wp2_with fail
  refine (unhide N4 _).mono ?_
  rintro e w4 ⟨rfl, hb4⟩
  have HK4 := hide ((hb4.block _ (block_ltQ (unhide HK3))).trans (unhide HK3))
  have HR4 := hide ((hb4.block _ (block_ltQ (unhide HR3))).trans (unhide HR3))
  have HB4 := hide (ext_callQ (unhide HB3) hb4)
  clear hb4 HK3 HR3 HB3 N4
  have y0 : w4.cell? ⟨w.heap.size, 0, none⟩ = some (.int .i64 2) := cell_of_row _ _ 0 _ _ _ (unhide HK4)
  have y1 : w4.cell? ⟨w.heap.size, 1, none⟩ = some (.string nm) := cell_of_row _ _ 1 _ _ _ (unhide HK4)
  have y2 : w4.cell? ⟨w.heap.size, 2, none⟩ = some (.string ⟨#[]⟩) := cell_of_row _ _ 2 _ _ _ (unhide HK4)
  have y3 : w4.cell? ⟨w.heap.size, 3, none⟩ = some (.int .i64 0) := cell_of_row _ _ 3 _ _ _ (unhide HK4)
  have y4 : w4.cell? ⟨w.heap.size, 4, none⟩ = some (.int .i64 0) := cell_of_row _ _ 4 _ _ _ (unhide HK4)
  have y5 : w4.cell? ⟨w.heap.size, 5, none⟩ = some (.int .i64 0) := cell_of_row _ _ 5 _ _ _ (unhide HK4)
  have y6 : w4.cell? ⟨w.heap.size, 6, none⟩ = some (.int .i64 0) := cell_of_row _ _ 6 _ _ _ (unhide HK4)
  have y7 : w4.cell? ⟨w.heap.size, 7, none⟩ = some (.bool false) := cell_of_row _ _ 7 _ _ _ (unhide HK4)
  have y8 : w4.cell? ⟨w.heap.size, 8, none⟩ = some (.int .i64 0) := cell_of_row _ _ 8 _ _ _ (unhide HK4)
  have y9 : w4.cell? ⟨w.heap.size, 9, none⟩ = some (.int .i64 0) := cell_of_row _ _ 9 _ _ _ (unhide HK4)
  have y10 : w4.cell? ⟨w.heap.size, 10, none⟩ = some (.string ⟨#[]⟩) := cell_of_row _ _ 10 _ _ _ (unhide HK4)
  have y11 : w4.cell? ⟨w.heap.size, 11, none⟩ = some (.string ⟨#[]⟩) := cell_of_row _ _ 11 _ _ _ (unhide HK4)
  have y12 : w4.cell? ⟨w.heap.size, 12, none⟩ = some (.string ⟨#[]⟩) := cell_of_row _ _ 12 _ _ _ (unhide HK4)
  have y13 : w4.cell? ⟨w.heap.size, 13, none⟩ = some (.string ⟨#[]⟩) := cell_of_row _ _ 13 _ _ _ (unhide HK4)
  have r0 : w4.cell? ⟨w2.heap.size, 0, none⟩ = some (.int .i64 0) := cell_of_row _ _ 0 _ _ _ (unhide HR4)
  have r1 : w4.cell? ⟨w2.heap.size, 1, none⟩ = some (.string nm) := cell_of_row _ _ 1 _ _ _ (unhide HR4)
  have r2 : w4.cell? ⟨w2.heap.size, 2, none⟩ = some (.string ⟨#[]⟩) := cell_of_row _ _ 2 _ _ _ (unhide HR4)
  have r3 : w4.cell? ⟨w2.heap.size, 3, none⟩ = some (.int .i64 0) := cell_of_row _ _ 3 _ _ _ (unhide HR4)
  have r4 : w4.cell? ⟨w2.heap.size, 4, none⟩ = some (.int .i64 0) := cell_of_row _ _ 4 _ _ _ (unhide HR4)
  have r5 : w4.cell? ⟨w2.heap.size, 5, none⟩ = some (.int .i64 0) := cell_of_row _ _ 5 _ _ _ (unhide HR4)
  have r6 : w4.cell? ⟨w2.heap.size, 6, none⟩ = some (.int .i64 0) := cell_of_row _ _ 6 _ _ _ (unhide HR4)
  have r7 : w4.cell? ⟨w2.heap.size, 7, none⟩ = some (.bool false) := cell_of_row _ _ 7 _ _ _ (unhide HR4)
  have r8 : w4.cell? ⟨w2.heap.size, 8, none⟩ = some (.int .i64 0) := cell_of_row _ _ 8 _ _ _ (unhide HR4)
  have r9 : w4.cell? ⟨w2.heap.size, 9, none⟩ = some (.int .i64 0) := cell_of_row _ _ 9 _ _ _ (unhide HR4)
  have r10 : w4.cell? ⟨w2.heap.size, 10, none⟩ = some (.string ⟨#[]⟩) := cell_of_row _ _ 10 _ _ _ (unhide HR4)
  have r11 : w4.cell? ⟨w2.heap.size, 11, none⟩ = some (.string ⟨#[]⟩) := cell_of_row _ _ 11 _ _ _ (unhide HR4)
  have r12 : w4.cell? ⟨w2.heap.size, 12, none⟩ = some (.string ⟨#[]⟩) := cell_of_row _ _ 12 _ _ _ (unhide HR4)
  have r13 : w4.cell? ⟨w2.heap.size, 13, none⟩ = some (.string ⟨#[]⟩) := cell_of_row _ _ 13 _ _ _ (unhide HR4)
  have rf : ∀ o, w4.frozen? ⟨w2.heap.size, o, none⟩ = false := fun o => frozen_of_row _ _ o _ _ (unhide HR4)
  go_wp2_with fail
  refine (unhide N5 _).mono ?_
  rintro e w5 ⟨rfl, hb5⟩
  have HK5 : Hid (w5.heap[w.heap.size]? = some (.cells #[.int .i64 2, .string nm, .string ⟨#[]⟩, .int .i64 0, .int .i64 0, .int .i64 0, .int .i64 0, .bool false, .int .i64 0, .int .i64 0, .string ⟨#[]⟩, .string ⟨#[]⟩, .string ⟨#[]⟩, .string ⟨#[]⟩] 80)) := hide ((hb5.block _ (block_ltQ ((Below.heap_setCell _ _ _ _ (by show w.heap.size ≠ w2.heap.size; omega)).trans (unhide HK4)))).trans ((Below.heap_setCell _ _ _ _ (by show w.heap.size ≠ w2.heap.size; omega)).trans (unhide HK4)))
  have HR5 : Hid (w5.heap[w2.heap.size]? = some (.cells #[.int .i64 0, .string ⟨#[]⟩, .string ⟨#[]⟩, .int .i64 0, .int .i64 0, .int .i64 0, .int .i64 0, .bool false, .int .i64 0, .int .i64 0, .string ⟨#[]⟩, .string ⟨#[]⟩, .string ⟨#[]⟩, .string ⟨#[]⟩] 80)) := hide ((hb5.block _ (block_ltQ (set_rowQ (j := 1) (v := .string ⟨#[]⟩) (unhide HR4)))).trans ((set_rowQ (j := 1) (v := .string ⟨#[]⟩) (unhide HR4)).trans rfl))
  have HB5 := hide (ext_callQ ((unhide HB4).setCell (p := ⟨w2.heap.size, 1, none⟩) (Nat.le_of_lt hlt2) (.string ⟨#[]⟩)) hb5)
  clear hb5 HK4 HR4 HB4 y0 r0 y1 r1 y2 r2 y3 r3 y4 r4 y5 r5 y6 r6 y7 r7 y8 r8 y9 r9 y10 r10 y11 r11 y12 r12 y13 r13 rf
  have y0 : w5.cell? ⟨w.heap.size, 0, none⟩ = some (.int .i64 2) := cell_of_row _ _ 0 _ _ _ (unhide HK5)
  have y1 : w5.cell? ⟨w.heap.size, 1, none⟩ = some (.string nm) := cell_of_row _ _ 1 _ _ _ (unhide HK5)
  have y2 : w5.cell? ⟨w.heap.size, 2, none⟩ = some (.string ⟨#[]⟩) := cell_of_row _ _ 2 _ _ _ (unhide HK5)
  have y3 : w5.cell? ⟨w.heap.size, 3, none⟩ = some (.int .i64 0) := cell_of_row _ _ 3 _ _ _ (unhide HK5)
  have y4 : w5.cell? ⟨w.heap.size, 4, none⟩ = some (.int .i64 0) := cell_of_row _ _ 4 _ _ _ (unhide HK5)
  have y5 : w5.cell? ⟨w.heap.size, 5, none⟩ = some (.int .i64 0) := cell_of_row _ _ 5 _ _ _ (unhide HK5)
  have y6 : w5.cell? ⟨w.heap.size, 6, none⟩ = some (.int .i64 0) := cell_of_row _ _ 6 _ _ _ (unhide HK5)
  have y7 : w5.cell? ⟨w.heap.size, 7, none⟩ = some (.bool false) := cell_of_row _ _ 7 _ _ _ (unhide HK5)
  have y8 : w5.cell? ⟨w.heap.size, 8, none⟩ = some (.int .i64 0) := cell_of_row _ _ 8 _ _ _ (unhide HK5)
  have y9 : w5.cell? ⟨w.heap.size, 9, none⟩ = some (.int .i64 0) := cell_of_row _ _ 9 _ _ _ (unhide HK5)
  have y10 : w5.cell? ⟨w.heap.size, 10, none⟩ = some (.string ⟨#[]⟩) := cell_of_row _ _ 10 _ _ _ (unhide HK5)
  have y11 : w5.cell? ⟨w.heap.size, 11, none⟩ = some (.string ⟨#[]⟩) := cell_of_row _ _ 11 _ _ _ (unhide HK5)
  have y12 : w5.cell? ⟨w.heap.size, 12, none⟩ = some (.string ⟨#[]⟩) := cell_of_row _ _ 12 _ _ _ (unhide HK5)
  have y13 : w5.cell? ⟨w.heap.size, 13, none⟩ = some (.string ⟨#[]⟩) := cell_of_row _ _ 13 _ _ _ (unhide HK5)
  have r0 : w5.cell? ⟨w2.heap.size, 0, none⟩ = some (.int .i64 0) := cell_of_row _ _ 0 _ _ _ (unhide HR5)
  have r1 : w5.cell? ⟨w2.heap.size, 1, none⟩ = some (.string ⟨#[]⟩) := cell_of_row _ _ 1 _ _ _ (unhide HR5)
  have r2 : w5.cell? ⟨w2.heap.size, 2, none⟩ = some (.string ⟨#[]⟩) := cell_of_row _ _ 2 _ _ _ (unhide HR5)
  have r3 : w5.cell? ⟨w2.heap.size, 3, none⟩ = some (.int .i64 0) := cell_of_row _ _ 3 _ _ _ (unhide HR5)
  have r4 : w5.cell? ⟨w2.heap.size, 4, none⟩ = some (.int .i64 0) := cell_of_row _ _ 4 _ _ _ (unhide HR5)
  have r5 : w5.cell? ⟨w2.heap.size, 5, none⟩ = some (.int .i64 0) := cell_of_row _ _ 5 _ _ _ (unhide HR5)
  have r6 : w5.cell? ⟨w2.heap.size, 6, none⟩ = some (.int .i64 0) := cell_of_row _ _ 6 _ _ _ (unhide HR5)
  have r7 : w5.cell? ⟨w2.heap.size, 7, none⟩ = some (.bool false) := cell_of_row _ _ 7 _ _ _ (unhide HR5)
  have r8 : w5.cell? ⟨w2.heap.size, 8, none⟩ = some (.int .i64 0) := cell_of_row _ _ 8 _ _ _ (unhide HR5)
  have r9 : w5.cell? ⟨w2.heap.size, 9, none⟩ = some (.int .i64 0) := cell_of_row _ _ 9 _ _ _ (unhide HR5)
  have r10 : w5.cell? ⟨w2.heap.size, 10, none⟩ = some (.string ⟨#[]⟩) := cell_of_row _ _ 10 _ _ _ (unhide HR5)
  have r11 : w5.cell? ⟨w2.heap.size, 11, none⟩ = some (.string ⟨#[]⟩) := cell_of_row _ _ 11 _ _ _ (unhide HR5)
  have r12 : w5.cell? ⟨w2.heap.size, 12, none⟩ = some (.string ⟨#[]⟩) := cell_of_row _ _ 12 _ _ _ (unhide HR5)
  have r13 : w5.cell? ⟨w2.heap.size, 13, none⟩ = some (.string ⟨#[]⟩) := cell_of_row _ _ 13 _ _ _ (unhide HR5)
  have rf : ∀ o, w5.frozen? ⟨w2.heap.size, o, none⟩ = false := fun o => frozen_of_row _ _ o _ _ (unhide HR5)
  by_cases hlong : 65535 < nm.size
  · have HL := hide (And.intro ((unhide HES).1.trans (unhide HLG hlong).1) ((unhide HES).2.trans (unhide HLG hlong).2))
    have tl : (65535 : Int) < (nm.size : Int) := by omega
    clear hlong
    go_wp2
    exact bodyPost_ret (v := .tuple #[.string ⟨#[]⟩, .int .i64 2]) (by simp [results, Tryd.results33, go_sem]) rfl ⟨ret_pairQ (unhide HL).2.symm (unhide HL).1.symm, unhide HB5⟩
  have tl : ¬ (65535 : Int) < (nm.size : Int) := by omega
  clear hlong
  go_wp2_with fail
  refine (unhide N8 _).mono ?_
  rintro e wz ⟨rfl, hbz⟩
  have HBZ := hide (ext_callQ (unhide HB5) hbz)
  clear hbz
  go_wp2
  exact bodyPost_ret (v := .tuple #[.string (outS 161 (a1 ++ a3)), .int .i64 (outE 161 (a1 ++ a3))]) (by simp [results, Tryd.results33, go_sem]) rfl ⟨ret_pairQ (unhide HT).2.symm (unhide HT).1.symm, unhide HBZ⟩
set_option maxRecDepth 100000 in
set_option maxHeartbeats 4000000 in
theorem rcmdY3  (w : World)  :
    Calls Tryd.prog 33 #[.agg #[.int .i64 3, .string ⟨#[]⟩, .string ⟨#[]⟩, .int .i64 0, .int .i64 0, .int .i64 0, .int .i64 0, .bool false, .int .i64 0, .int .i64 0, .string ⟨#[]⟩, .string ⟨#[]⟩, .string ⟨#[]⟩, .string ⟨#[]⟩]] w fun e w' => e = .returned (.tuple #[.string (tellS 161 [(128, numS 3 1)] 0), .int .i64 (tellE 161 [(128, numS 3 1)] 0)]) ∧ Below w.heap.size w w' := by
  obtain ⟨E, hE⟩ : ∃ E, E = tellE 161 [(128, numS 3 1)] 0 := ⟨_, rfl⟩
  obtain ⟨S, hS⟩ : ∃ S, S = tellS 161 [(128, numS 3 1)] 0 := ⟨_, rfl⟩
  rw [← hE, ← hS]
  have n1 := fun b cap w c0 => bytes1T 3 (by decide) b cap w c0
  have n2 := fun w => ritem_any 128 (strOfNums [3]) w (by decide) (by rw [strOfNums_size]; simp)
  have n3 := fun b cap w (c0 : w.cell? ⟨b, 0, none⟩ = some (.int .i64 0)) => bytes_one 0 b 0 cap w (World.block_lt_of_cell? w _ c0) c0
  have n4 := fun w => ritem_any 131 (strOfNums [lowByte 0]) w (by decide) (by rw [strOfNums_size]; simp)
  have zi := itS_size 128 (strOfNums [3])
  have zw := itS_size 131 (strOfNums [lowByte 0])
  have zn : (strOfNums [3]).size = 1 := by rw [strOfNums_size]; rfl
  have zl : (strOfNums [lowByte 0]).size = 1 := by rw [strOfNums_size]; rfl
  have ze : lenLen 1 = 1 := rfl
  rw [zn, ze] at zi
  rw [zl, ze] at zw
  have n8 := fun w => router_any 161 (itS 128 (strOfNums [3])) w (by decide) (by omega)
  have e1 : numS 3 1 = strOfNums [3] := (num_one (by decide)).1
  have hgd : goodL [(128, numS 3 1)] := (goodL_cons good_128 goodL_nil)
  have HT : Hid (E = outE 161 (itS 128 (strOfNums [3])) ∧ S = outS 161 (itS 128 (strOfNums [3]))) := hide (by
    have h := tell_out [(128, numS 3 1)] hgd
    have hI : inL [(128, numS 3 1)] = (itS 128 (strOfNums [3])) := by
      simp only [inL, app_nil, e1]
    rw [hI] at h
    exact ⟨hE.trans h.1, hS.trans h.2⟩)
  clear e1 hgd
  have HES := hide (And.intro hE hS)
  clear hE hS
  generalize itS 128 (strOfNums [3]) = a1 at *
  generalize itS 131 (strOfNums [lowByte 0]) = a2 at *
  generalize strOfNums [3] = p1 at *
  generalize strOfNums [lowByte 0] = p2 at *
  have N1 := hide n1; have N2 := hide n2; have N3 := hide n3; have N4 := hide n4; have N8 := hide n8
  clear n1 n2 n3 n4 n8 zi zw zn zl ze
  have HB0 := hide ((Below.refl w.heap.size w).alloc (Nat.le_refl _) (.cells #[.int .i64 3, .string ⟨#[]⟩, .string ⟨#[]⟩, .int .i64 0, .int .i64 0, .int .i64 0, .int .i64 0, .bool false, .int .i64 0, .int .i64 0, .string ⟨#[]⟩, .string ⟨#[]⟩, .string ⟨#[]⟩, .string ⟨#[]⟩] 80))
  go_enter Tryd.func33, Tryd.ntmps33
  go_wp2_with fail
  refine (unhide N1 _ _ _ (new_cellQ (by simp) rfl)).mono ?_
  rintro e w1 ⟨rfl, hb1⟩
  have hk0 := hb1.block w.heap.size (by simp; omega)
  have HK1 : Hid (w1.heap[w.heap.size]? = some (.cells #[.int .i64 3, .string ⟨#[]⟩, .string ⟨#[]⟩, .int .i64 0, .int .i64 0, .int .i64 0, .int .i64 0, .bool false, .int .i64 0, .int .i64 0, .string ⟨#[]⟩, .string ⟨#[]⟩, .string ⟨#[]⟩, .string ⟨#[]⟩] 80)) := hide (by rw [hk0]; exact (two_newP w _ _).1)
  have HB1 := hide (ext_callQ (ext_allocQ (unhide HB0) _) hb1)
  clear hb1 hk0 HB0
  go_wp2_with fail
  refine (unhide N2 _).mono ?_
  rintro e w2 ⟨rfl, hb2⟩
  have HK2 := hide ((hb2.block _ (block_ltQ (unhide HK1))).trans (unhide HK1))
  have HB2 := hide (ext_callQ (unhide HB1) hb2)
  have y0 : w2.cell? ⟨w.heap.size, 0, none⟩ = some (.int .i64 3) := cell_of_row _ _ 0 _ _ _ (unhide HK2)
  have y1 : w2.cell? ⟨w.heap.size, 1, none⟩ = some (.string ⟨#[]⟩) := cell_of_row _ _ 1 _ _ _ (unhide HK2)
  have y2 : w2.cell? ⟨w.heap.size, 2, none⟩ = some (.string ⟨#[]⟩) := cell_of_row _ _ 2 _ _ _ (unhide HK2)
  have y3 : w2.cell? ⟨w.heap.size, 3, none⟩ = some (.int .i64 0) := cell_of_row _ _ 3 _ _ _ (unhide HK2)
  have y4 : w2.cell? ⟨w.heap.size, 4, none⟩ = some (.int .i64 0) := cell_of_row _ _ 4 _ _ _ (unhide HK2)
  have y5 : w2.cell? ⟨w.heap.size, 5, none⟩ = some (.int .i64 0) := cell_of_row _ _ 5 _ _ _ (unhide HK2)
  have y6 : w2.cell? ⟨w.heap.size, 6, none⟩ = some (.int .i64 0) := cell_of_row _ _ 6 _ _ _ (unhide HK2)
  have y7 : w2.cell? ⟨w.heap.size, 7, none⟩ = some (.bool false) := cell_of_row _ _ 7 _ _ _ (unhide HK2)
  have y8 : w2.cell? ⟨w.heap.size, 8, none⟩ = some (.int .i64 0) := cell_of_row _ _ 8 _ _ _ (unhide HK2)
  have y9 : w2.cell? ⟨w.heap.size, 9, none⟩ = some (.int .i64 0) := cell_of_row _ _ 9 _ _ _ (unhide HK2)
  have y10 : w2.cell? ⟨w.heap.size, 10, none⟩ = some (.string ⟨#[]⟩) := cell_of_row _ _ 10 _ _ _ (unhide HK2)
  have y11 : w2.cell? ⟨w.heap.size, 11, none⟩ = some (.string ⟨#[]⟩) := cell_of_row _ _ 11 _ _ _ (unhide HK2)
  have y12 : w2.cell? ⟨w.heap.size, 12, none⟩ = some (.string ⟨#[]⟩) := cell_of_row _ _ 12 _ _ _ (unhide HK2)
  have y13 : w2.cell? ⟨w.heap.size, 13, none⟩ = some (.string ⟨#[]⟩) := cell_of_row _ _ 13 _ _ _ (unhide HK2)
  have hlt2 : w.heap.size < w2.heap.size := block_ltQ (unhide HK2)
  have HKZ := hide (alloc_keepQT (o' := .cells #[.int .i64 0, .string ⟨#[]⟩, .string ⟨#[]⟩, .int .i64 0, .int .i64 0, .int .i64 0, .int .i64 0, .bool false, .int .i64 0, .int .i64 0, .string ⟨#[]⟩, .string ⟨#[]⟩, .string ⟨#[]⟩, .string ⟨#[]⟩] 80) (unhide HK2))
  have x3 : (w2.alloc (.cells #[.int .i64 0, .string ⟨#[]⟩, .string ⟨#[]⟩, .int .i64 0, .int .i64 0, .int .i64 0, .int .i64 0, .bool false, .int .i64 0, .int .i64 0, .string ⟨#[]⟩, .string ⟨#[]⟩, .string ⟨#[]⟩, .string ⟨#[]⟩] 80)).cell? ⟨w.heap.size, 3, none⟩ = some (.int .i64 0) := cell_of_row _ _ 3 _ _ _ (unhide HKZ)
  have hne1 : ¬ w.heap.size = w2.heap.size := by omega
  have hne2 : ¬ w2.heap.size = w.heap.size := by omega
  clear hb2 HK1 HB1 N1 N2
  go_wp2_with fail
  refine (unhide N3 _ _ _ (new_cellQ (by simp) rfl)).mono ?_
  rintro e w3 ⟨rfl, hb3⟩
  have HK3 := hide ((hb3.block w.heap.size (by simp; omega)).trans (alloc_keepQT (unhide HKZ)))
  have HR3 : Hid (w3.heap[w2.heap.size]? = some (.cells #[.int .i64 0, .string ⟨#[]⟩, .string ⟨#[]⟩, .int .i64 0, .int .i64 0, .int .i64 0, .int .i64 0, .bool false, .int .i64 0, .int .i64 0, .string ⟨#[]⟩, .string ⟨#[]⟩, .string ⟨#[]⟩, .string ⟨#[]⟩] 80)) := hide (by rw [hb3.block w2.heap.size (by simp; omega)]; exact (two_newP w2 _ _).1)
  have HB3 := hide (ext_callQ (ext_allocQ (ext_allocQ (unhide HB2) _) _) hb3)
  clear hb3 HKZ HB2 x3 y0 y1 y2 y3 y4 y5 y6 y7 y8 y9 y10 y11 y12 y13 HK2 N3
  go_wp2_with fail
  refine (unhide N4 _).mono ?_
  rintro e w4 ⟨rfl, hb4⟩
  have HK4 := hide ((hb4.block _ (block_ltQ (unhide HK3))).trans (unhide HK3))
  have HR4 := hide ((hb4.block _ (block_ltQ (unhide HR3))).trans (unhide HR3))
  have HB4 := hide (ext_callQ (unhide HB3) hb4)
  clear hb4 HK3 HR3 HB3 N4
  have y0 : w4.cell? ⟨w.heap.size, 0, none⟩ = some (.int .i64 3) := cell_of_row _ _ 0 _ _ _ (unhide HK4)
  have y1 : w4.cell? ⟨w.heap.size, 1, none⟩ = some (.string ⟨#[]⟩) := cell_of_row _ _ 1 _ _ _ (unhide HK4)
  have y2 : w4.cell? ⟨w.heap.size, 2, none⟩ = some (.string ⟨#[]⟩) := cell_of_row _ _ 2 _ _ _ (unhide HK4)
  have y3 : w4.cell? ⟨w.heap.size, 3, none⟩ = some (.int .i64 0) := cell_of_row _ _ 3 _ _ _ (unhide HK4)
  have y4 : w4.cell? ⟨w.heap.size, 4, none⟩ = some (.int .i64 0) := cell_of_row _ _ 4 _ _ _ (unhide HK4)
  have y5 : w4.cell? ⟨w.heap.size, 5, none⟩ = some (.int .i64 0) := cell_of_row _ _ 5 _ _ _ (unhide HK4)
  have y6 : w4.cell? ⟨w.heap.size, 6, none⟩ = some (.int .i64 0) := cell_of_row _ _ 6 _ _ _ (unhide HK4)
  have y7 : w4.cell? ⟨w.heap.size, 7, none⟩ = some (.bool false) := cell_of_row _ _ 7 _ _ _ (unhide HK4)
  have y8 : w4.cell? ⟨w.heap.size, 8, none⟩ = some (.int .i64 0) := cell_of_row _ _ 8 _ _ _ (unhide HK4)
  have y9 : w4.cell? ⟨w.heap.size, 9, none⟩ = some (.int .i64 0) := cell_of_row _ _ 9 _ _ _ (unhide HK4)
  have y10 : w4.cell? ⟨w.heap.size, 10, none⟩ = some (.string ⟨#[]⟩) := cell_of_row _ _ 10 _ _ _ (unhide HK4)
  have y11 : w4.cell? ⟨w.heap.size, 11, none⟩ = some (.string ⟨#[]⟩) := cell_of_row _ _ 11 _ _ _ (unhide HK4)
  have y12 : w4.cell? ⟨w.heap.size, 12, none⟩ = some (.string ⟨#[]⟩) := cell_of_row _ _ 12 _ _ _ (unhide HK4)
  have y13 : w4.cell? ⟨w.heap.size, 13, none⟩ = some (.string ⟨#[]⟩) := cell_of_row _ _ 13 _ _ _ (unhide HK4)
  have r0 : w4.cell? ⟨w2.heap.size, 0, none⟩ = some (.int .i64 0) := cell_of_row _ _ 0 _ _ _ (unhide HR4)
  have r1 : w4.cell? ⟨w2.heap.size, 1, none⟩ = some (.string ⟨#[]⟩) := cell_of_row _ _ 1 _ _ _ (unhide HR4)
  have r2 : w4.cell? ⟨w2.heap.size, 2, none⟩ = some (.string ⟨#[]⟩) := cell_of_row _ _ 2 _ _ _ (unhide HR4)
  have r3 : w4.cell? ⟨w2.heap.size, 3, none⟩ = some (.int .i64 0) := cell_of_row _ _ 3 _ _ _ (unhide HR4)
  have r4 : w4.cell? ⟨w2.heap.size, 4, none⟩ = some (.int .i64 0) := cell_of_row _ _ 4 _ _ _ (unhide HR4)
  have r5 : w4.cell? ⟨w2.heap.size, 5, none⟩ = some (.int .i64 0) := cell_of_row _ _ 5 _ _ _ (unhide HR4)
  have r6 : w4.cell? ⟨w2.heap.size, 6, none⟩ = some (.int .i64 0) := cell_of_row _ _ 6 _ _ _ (unhide HR4)
  have r7 : w4.cell? ⟨w2.heap.size, 7, none⟩ = some (.bool false) := cell_of_row _ _ 7 _ _ _ (unhide HR4)
  have r8 : w4.cell? ⟨w2.heap.size, 8, none⟩ = some (.int .i64 0) := cell_of_row _ _ 8 _ _ _ (unhide HR4)
  have r9 : w4.cell? ⟨w2.heap.size, 9, none⟩ = some (.int .i64 0) := cell_of_row _ _ 9 _ _ _ (unhide HR4)
  have r10 : w4.cell? ⟨w2.heap.size, 10, none⟩ = some (.string ⟨#[]⟩) := cell_of_row _ _ 10 _ _ _ (unhide HR4)
  have r11 : w4.cell? ⟨w2.heap.size, 11, none⟩ = some (.string ⟨#[]⟩) := cell_of_row _ _ 11 _ _ _ (unhide HR4)
  have r12 : w4.cell? ⟨w2.heap.size, 12, none⟩ = some (.string ⟨#[]⟩) := cell_of_row _ _ 12 _ _ _ (unhide HR4)
  have r13 : w4.cell? ⟨w2.heap.size, 13, none⟩ = some (.string ⟨#[]⟩) := cell_of_row _ _ 13 _ _ _ (unhide HR4)
  have rf : ∀ o, w4.frozen? ⟨w2.heap.size, o, none⟩ = false := fun o => frozen_of_row _ _ o _ _ (unhide HR4)
  go_wp2_with fail
  refine (unhide N8 _).mono ?_
  rintro e wz ⟨rfl, hbz⟩
  have HBZ := hide (ext_callQ (unhide HB4) hbz)
  clear hbz
  go_wp2
  exact bodyPost_ret (v := .tuple #[.string (outS 161 a1), .int .i64 (outE 161 a1)]) (by simp [results, Tryd.results33, go_sem]) rfl ⟨ret_pairQ (unhide HT).2.symm (unhide HT).1.symm, unhide HBZ⟩
end Go.Proofs.YtfpglpefofcdeaaDoor
