/- Answers read, by the document's own: ReadAnswer. Made by drafts/genTgJ.py. -/
import Derived.Test.YtfpglpefofcdeaaGreatDoorM35
import Derived.Test.YtfpglpefofcdeaaGreatDoorM27
import Derived.Test.YtfpglpefofcdeaaGreatDoorM45
import Derived.Test.YtfpglpefofcdeaaGreatDoorM32
import Derived.Deep.DeepCutAuto
namespace Go.Proofs.YtfpglpefofcdeaaGreatDoor
open Go.RowKit
set_option linter.unusedVariables false
set_option linter.unusedSimpArgs false
set_option maxRecDepth 100000

theorem flZ_ok (w : World) : FlOK w flZ := (anNil_ok w).fl
set_option maxHeartbeats 8000000 in
theorem rreadAnswer_any
    (RA : ∀ (a : An) (w : World), AnOK w a → anZ a ≤ 1048576 → Calls Tryz.prog 6 #[.agg (anC a)] w fun e w' => e = .returned (.tuple #[.string (answerS a), .int .i64 (answerE a)]) ∧ Below w.heap.size w w')
    (RF : ∀ (s : ByteArray) (w : World), s.size ≤ 65535 → Calls Tryz.prog 31 #[.string s] w fun e w' => (∃ f, e = .returned (.tuple #[.agg (flC f), .bool (okP s)]) ∧ FlOK w' f ∧ (okP s = true → f.strip = flP s) ∧ ∀ p, f.ro = some p → w.heap.size < p.block) ∧ Below w.heap.size w w')
    (s : ByteArray) (w : World) (hs : s.size ≤ maxLen) :
    Calls Tryz.prog 8 #[.string s] w fun e w' => (∃ a, e = .returned (.tuple #[.agg (anC a), .int .i64 (readWE s)]) ∧ AnOK w' a ∧ a.strip = readWL s) ∧ Below w.heap.size w w' := by
  obtain ⟨W2, hW2⟩ : ∃ W2, W2 = (w.alloc (.cells #[.string s] 9)).alloc (.cells #[.int .i64 0, .int .i64 0, .slice none 0 0, .int .i64 0, .int .i64 0, .int .i64 0, .string ⟨#[]⟩, .slice none 0 0, .string ⟨#[]⟩, .string ⟨#[]⟩, .string ⟨#[]⟩, .string ⟨#[]⟩, .int .i64 0, .int .i64 0, .slice none 0 0, .int .i64 0, .int .i64 0, .int .i64 0, .slice none 0 0, .int .i64 0, .int .i64 0, .string ⟨#[]⟩, .string ⟨#[]⟩, .string ⟨#[]⟩] 37) := ⟨_, rfl⟩
  have hB2 : Below w.heap.size w W2 := by rw [hW2]; exact ((Below.refl _ _).alloc (Nat.le_refl _) _).alloc (by simp) _
  have hXs : W2.heap[w.heap.size]? = some (.cells #[.string s] 9 (0, 0)) := by rw [hW2]; exact alloc_keepQT (heap_alloc_new _ _)
  have hXr : W2.heap[w.heap.size + 1]? = some (.cells #[.int .i64 0, .int .i64 0, .slice none 0 0, .int .i64 0, .int .i64 0, .int .i64 0, .string ⟨#[]⟩, .slice none 0 0, .string ⟨#[]⟩, .string ⟨#[]⟩, .string ⟨#[]⟩, .string ⟨#[]⟩, .int .i64 0, .int .i64 0, .slice none 0 0, .int .i64 0, .int .i64 0, .int .i64 0, .slice none 0 0, .int .i64 0, .int .i64 0, .string ⟨#[]⟩, .string ⟨#[]⟩, .string ⟨#[]⟩] 37 (0, 0)) := by
    rw [hW2]
    have h1 := heap_alloc_new (w.alloc (.cells #[.string s] 9)) (.cells #[.int .i64 0, .int .i64 0, .slice none 0 0, .int .i64 0, .int .i64 0, .int .i64 0, .string ⟨#[]⟩, .slice none 0 0, .string ⟨#[]⟩, .string ⟨#[]⟩, .string ⟨#[]⟩, .string ⟨#[]⟩, .int .i64 0, .int .i64 0, .slice none 0 0, .int .i64 0, .int .i64 0, .int .i64 0, .slice none 0 0, .int .i64 0, .int .i64 0, .string ⟨#[]⟩, .string ⟨#[]⟩, .string ⟨#[]⟩] 37)
    simpa using h1
  have hcs : ∀ W, Below W2.heap.size W2 W → W.cell? ⟨w.heap.size, 0, none⟩ = some (.string s) := fun W hb => cell_of_row _ _ 0 _ _ _ ((hb.block _ (block_ltQ hXs)).trans hXs)
  have hwt := parses_wt s
  have HCS := hide hcs
  have NL128 := hide (fun W (hb : Below W2.heap.size W2 W) => rlitA_any s 128 w.heap.size W hs (hcs W hb))
  have hz128 := getA_size 128 (parsesL s) hwt
  have NL129 := hide (fun W (hb : Below W2.heap.size W2 W) => rlitA_any s 129 w.heap.size W hs (hcs W hb))
  have hz129 := getA_size 129 (parsesL s) hwt
  have NL130 := hide (fun W (hb : Below W2.heap.size W2 W) => rlitA_any s 130 w.heap.size W hs (hcs W hb))
  have hz130 := getA_size 130 (parsesL s) hwt
  have NL131 := hide (fun W (hb : Below W2.heap.size W2 W) => rlitA_any s 131 w.heap.size W hs (hcs W hb))
  have hz131 := getA_size 131 (parsesL s) hwt
  have NL132 := hide (fun W (hb : Below W2.heap.size W2 W) => rlitA_any s 132 w.heap.size W hs (hcs W hb))
  have hz132 := getA_size 132 (parsesL s) hwt
  have NL133 := hide (fun W (hb : Below W2.heap.size W2 W) => rlitA_any s 133 w.heap.size W hs (hcs W hb))
  have hz133 := getA_size 133 (parsesL s) hwt
  have NL134 := hide (fun W (hb : Below W2.heap.size W2 W) => rlitA_any s 134 w.heap.size W hs (hcs W hb))
  have hz134 := getA_size 134 (parsesL s) hwt
  have NL135 := hide (fun W (hb : Below W2.heap.size W2 W) => rlitA_any s 135 w.heap.size W hs (hcs W hb))
  have hz135 := getA_size 135 (parsesL s) hwt
  have NL136 := hide (fun W (hb : Below W2.heap.size W2 W) => rlitA_any s 136 w.heap.size W hs (hcs W hb))
  have hz136 := getA_size 136 (parsesL s) hwt
  have NL137 := hide (fun W (hb : Below W2.heap.size W2 W) => rlitA_any s 137 w.heap.size W hs (hcs W hb))
  have hz137 := getA_size 137 (parsesL s) hwt
  have NL138 := hide (fun W (hb : Below W2.heap.size W2 W) => rlitA_any s 138 w.heap.size W hs (hcs W hb))
  have hz138 := getA_size 138 (parsesL s) hwt
  have NL139 := hide (fun W (hb : Below W2.heap.size W2 W) => rlitA_any s 139 w.heap.size W hs (hcs W hb))
  have hz139 := getA_size 139 (parsesL s) hwt
  have NL140 := hide (fun W (hb : Below W2.heap.size W2 W) => rlitA_any s 140 w.heap.size W hs (hcs W hb))
  have hz140 := getA_size 140 (parsesL s) hwt
  have NL141 := hide (fun W (hb : Below W2.heap.size W2 W) => rlitA_any s 141 w.heap.size W hs (hcs W hb))
  have hz141 := getA_size 141 (parsesL s) hwt
  have NL142 := hide (fun W (hb : Below W2.heap.size W2 W) => rlitA_any s 142 w.heap.size W hs (hcs W hb))
  have hz142 := getA_size 142 (parsesL s) hwt
  have NL143 := hide (fun W (hb : Below W2.heap.size W2 W) => rlitA_any s 143 w.heap.size W hs (hcs W hb))
  have hz143 := getA_size 143 (parsesL s) hwt
  have NU128 := hide (fun W => rnum_any (getA 128 (parsesL s)) W)
  have NU129 := hide (fun W => rnum_any (getA 129 (parsesL s)) W)
  have NU131 := hide (fun W => rnum_any (getA 131 (parsesL s)) W)
  have NU132 := hide (fun W => rnum_any (getA 132 (parsesL s)) W)
  have NU138 := hide (fun W => rnum_any (getA 138 (parsesL s)) W)
  have NU139 := hide (fun W => rnum_any (getA 139 (parsesL s)) W)
  have NU140 := hide (fun W => rnum_any (getA 140 (parsesL s)) W)
  have NA := hide (fun W => readApps_any (fun l ao cap w hr => appsText_any l ao cap w hr) (getA 130 (parsesL s)) W (by unfold maxLen; omega))
  have NF := hide (fun W => RF (getA 133 (parsesL s)) W hz133)
  have HNB := hide (show (numR (getA 128 (parsesL s)) ≤ 9223372036854775807 ∧ numR (getA 129 (parsesL s)) ≤ 9223372036854775807 ∧ numR (getA 131 (parsesL s)) ≤ 9223372036854775807 ∧ numR (getA 132 (parsesL s)) ≤ 9223372036854775807 ∧ numR (getA 138 (parsesL s)) ≤ 9223372036854775807 ∧ numR (getA 139 (parsesL s)) ≤ 9223372036854775807 ∧ numR (getA 140 (parsesL s)) ≤ 9223372036854775807) from ⟨numA_bound _, numA_bound _, numA_bound _, numA_bound _, numA_bound _, numA_bound _, numA_bound _⟩)
  have HZZ : Hid ((getA 134 (parsesL s)).size + (getA 135 (parsesL s)).size + (getA 136 (parsesL s)).size + (getA 137 (parsesL s)).size + (getA 141 (parsesL s)).size + (getA 142 (parsesL s)).size + (getA 143 (parsesL s)).size ≤ 1048576) := hide (by omega)
  have HFD := hide (flD_flP (getA 133 (parsesL s)))
  have HF0 : Hid ((getA 133 (parsesL s)).size = 0 → flZ.strip = flD (getA 133 (parsesL s))) := hide (fun h => by unfold flD; rw [if_pos h]; rfl)
  have HDC : Hid (readW s = decide (((getA 133 (parsesL s)).size = 0 ∨ okP (getA 133 (parsesL s)) = true) ∧ answerE (anD (parsesL s)) = 0 ∧ answerS (anD (parsesL s)) = s)) := hide ((docW_readW s).1.symm)
  have HNO := hide (@readW_no s)
  have HYES : Hid (readW s = true → readWL s = anD (parsesL s) ∧ readWE s = 0) := hide (fun h => ⟨(readW_yes h).1.trans ((docW_readW s).2 h).symm, (readW_yes h).2⟩)
  obtain ⟨AD, hAD⟩ : ∃ AD, AD = anD (parsesL s) := ⟨_, rfl⟩
  rw [← hAD] at HDC HYES
  unfold anD at hAD
  have HAD := hide hAD
  clear hAD
  generalize numR (getA 128 (parsesL s)) = n128 at *
  generalize numR (getA 129 (parsesL s)) = n129 at *
  generalize numR (getA 131 (parsesL s)) = n131 at *
  generalize numR (getA 132 (parsesL s)) = n132 at *
  generalize numR (getA 138 (parsesL s)) = n138 at *
  generalize numR (getA 139 (parsesL s)) = n139 at *
  generalize numR (getA 140 (parsesL s)) = n140 at *
  generalize readsL (getA 130 (parsesL s)) = al at *
  generalize readsE (getA 130 (parsesL s)) = ae at *
  generalize flD (getA 133 (parsesL s)) = FD at *
  generalize flP (getA 133 (parsesL s)) = FP at *
  generalize okP (getA 133 (parsesL s)) = ok at *
  generalize getA 128 (parsesL s) = g128 at *
  generalize getA 129 (parsesL s) = g129 at *
  generalize getA 130 (parsesL s) = g130 at *
  generalize getA 131 (parsesL s) = g131 at *
  generalize getA 132 (parsesL s) = g132 at *
  generalize getA 133 (parsesL s) = g133 at *
  generalize getA 134 (parsesL s) = g134 at *
  generalize getA 135 (parsesL s) = g135 at *
  generalize getA 136 (parsesL s) = g136 at *
  generalize getA 137 (parsesL s) = g137 at *
  generalize getA 138 (parsesL s) = g138 at *
  generalize getA 139 (parsesL s) = g139 at *
  generalize getA 140 (parsesL s) = g140 at *
  generalize getA 141 (parsesL s) = g141 at *
  generalize getA 142 (parsesL s) = g142 at *
  generalize getA 143 (parsesL s) = g143 at *
  generalize readWL s = RL at *
  generalize readWE s = RE at *
  generalize readW s = rw1 at *
  have HB2 := hide hB2; have HW2 := hide hW2; have HXR := hide hXr; have HXS := hide hXs
  have B0 : Hid (Below W2.heap.size W2 W2) := hide (Below.refl _ _)
  have HSW : Hid (w.heap.size + 1 < W2.heap.size) := hide (block_ltQ hXr)
  clear hB2 hW2 hXr hXs hcs hwt RF
  clear hz128
  clear hz129
  clear hz130
  clear hz131
  clear hz132
  clear hz133
  clear hz134
  clear hz135
  clear hz136
  clear hz137
  clear hz138
  clear hz139
  clear hz140
  clear hz141
  clear hz142
  clear hz143
  go_enter Tryz.func8, Tryz.ntmps8
  go_upto_region 1 with fail
  rw [← unhide HW2]
  go_wp2_with fail
  refine (unhide NL128 _ (unhide B0)).mono ?_
  rintro e z1 ⟨rfl, j1⟩
  have B1 := hide (belowTr (unhide B0) j1)
  clear j1
  go_wp2_with fail
  refine (unhide NU128 _).mono ?_
  rintro e q ⟨rfl, hq⟩
  have hq' := hq.symm
  subst hq'
  clear hq
  go_wp2_with fail
  refine (unhide NL129 _ (unhide B1)).mono ?_
  rintro e z2 ⟨rfl, j2⟩
  have B2 := hide (belowTr (unhide B1) j2)
  clear j2
  go_wp2_with fail
  refine (unhide NU129 _).mono ?_
  rintro e q ⟨rfl, hq⟩
  have hq' := hq.symm
  subst hq'
  clear hq
  go_wp2_with fail
  refine (unhide NL131 _ (unhide B2)).mono ?_
  rintro e z3 ⟨rfl, j3⟩
  have B3 := hide (belowTr (unhide B2) j3)
  clear j3
  go_wp2_with fail
  refine (unhide NU131 _).mono ?_
  rintro e q ⟨rfl, hq⟩
  have hq' := hq.symm
  subst hq'
  clear hq
  go_wp2_with fail
  refine (unhide NL132 _ (unhide B3)).mono ?_
  rintro e z4 ⟨rfl, j4⟩
  have B4 := hide (belowTr (unhide B3) j4)
  clear j4
  go_wp2_with fail
  refine (unhide NU132 _).mono ?_
  rintro e q ⟨rfl, hq⟩
  have hq' := hq.symm
  subst hq'
  clear hq
  go_wp2_with fail
  refine (unhide NL138 _ (unhide B4)).mono ?_
  rintro e z5 ⟨rfl, j5⟩
  have B5 := hide (belowTr (unhide B4) j5)
  clear j5
  go_wp2_with fail
  refine (unhide NU138 _).mono ?_
  rintro e q ⟨rfl, hq⟩
  have hq' := hq.symm
  subst hq'
  clear hq
  obtain ⟨W3, hW3⟩ : ∃ W3, W3 = (z5.alloc (.cells #[.int .i64 0, .int .i64 0, .slice none 0 0, .int .i64 0, .int .i64 0, .int .i64 0, .string ⟨#[]⟩, .slice none 0 0, .string ⟨#[]⟩, .string ⟨#[]⟩, .string ⟨#[]⟩, .string ⟨#[]⟩, .int .i64 0, .int .i64 0, .slice none 0 0, .int .i64 0, .int .i64 0, .int .i64 0, .slice none 0 0, .int .i64 0, .int .i64 0, .string ⟨#[]⟩, .string ⟨#[]⟩, .string ⟨#[]⟩] 37)).setRow z5.heap.size #[.int .i64 n128, .int .i64 n129, .slice none 0 0, .int .i64 n131, .int .i64 n132, .int .i64 n138, .string ⟨#[]⟩, .slice none 0 0, .string ⟨#[]⟩, .string ⟨#[]⟩, .string ⟨#[]⟩, .string ⟨#[]⟩, .int .i64 0, .int .i64 0, .slice none 0 0, .int .i64 0, .int .i64 0, .int .i64 0, .slice none 0 0, .int .i64 0, .int .i64 0, .string ⟨#[]⟩, .string ⟨#[]⟩, .string ⟨#[]⟩] := ⟨_, rfl⟩
  have x3 : W3.heap[z5.heap.size]? = some (.cells #[.int .i64 n128, .int .i64 n129, .slice none 0 0, .int .i64 n131, .int .i64 n132, .int .i64 n138, .string ⟨#[]⟩, .slice none 0 0, .string ⟨#[]⟩, .string ⟨#[]⟩, .string ⟨#[]⟩, .string ⟨#[]⟩, .int .i64 0, .int .i64 0, .slice none 0 0, .int .i64 0, .int .i64 0, .int .i64 0, .slice none 0 0, .int .i64 0, .int .i64 0, .string ⟨#[]⟩, .string ⟨#[]⟩, .string ⟨#[]⟩] 37 (0, 0)) := by rw [hW3]; exact setRow_heap _ _ _ _ _ _ (heap_alloc_new _ _)
  have C3 : Hid (Below W2.heap.size W2 W3) := hide (by rw [hW3]; exact setRow_belowT (ext_allocQ (unhide B5) _) (unhide B5).size)
  have HAA := hide (unhide B5).size
  have K3 : Hid (Below W3.heap.size W3 W3) := hide (Below.refl _ _)
  have HX3 := hide x3; have HW3 := hide hW3
  clear x3 hW3 B0 B1 B2 B3 B4
  go_upto_region 3 with (refine wpList_store_row rfl _ _ _ rfl z5.heap.size #[.int .i64 n128, .int .i64 n129, .slice none 0 0, .int .i64 n131, .int .i64 n132, .int .i64 n138, .string ⟨#[]⟩, .slice none 0 0, .string ⟨#[]⟩, .string ⟨#[]⟩, .string ⟨#[]⟩, .string ⟨#[]⟩, .int .i64 0, .int .i64 0, .slice none 0 0, .int .i64 0, .int .i64 0, .int .i64 0, .slice none 0 0, .int .i64 0, .int .i64 0, .string ⟨#[]⟩, .string ⟨#[]⟩, .string ⟨#[]⟩] rfl rfl _ _ (heap_alloc_new _ _) infoAn rfl (one24 rfl) ?_)
  rw [← unhide HW3]
  clear NL128 NL129 NL131 NL132 NL138 NU128 NU129 NU131 NU132 NU138 HW2 HW3
  go_wp2_with fail
  refine (unhide NL130 _ (belowTr (unhide C3) (unhide K3))).mono ?_
  rintro e z6 ⟨rfl, j6⟩
  have B6 := hide (belowTr (unhide K3) j6)
  clear j6
  go_wp2_with fail
  refine (unhide NA _).mono ?_
  rintro e y7 ⟨⟨ao, ac, rfl, hra⟩, k7⟩
  have k37 := belowTr (unhide B6) k7
  have x7 := (k37.block _ (block_ltQ (unhide HX3))).trans (unhide HX3)
  have d2 : y7.cell? ⟨z5.heap.size, 2, none⟩ = some (.slice none 0 0) := cell_of_row _ _ 2 _ _ _ x7
  have e2 : y7.frozen? ⟨z5.heap.size, 2, none⟩ = false := frozen_of_row _ _ 2 _ _ x7
  obtain ⟨W4, hW4⟩ : ∃ W4, W4 = y7.setCell ⟨z5.heap.size, 2, none⟩ (.slice ao al.length ac) := ⟨_, rfl⟩
  have hR4 : W4 = y7.setRow z5.heap.size #[.int .i64 n128, .int .i64 n129, .slice ao al.length ac, .int .i64 n131, .int .i64 n132, .int .i64 n138, .string ⟨#[]⟩, .slice none 0 0, .string ⟨#[]⟩, .string ⟨#[]⟩, .string ⟨#[]⟩, .string ⟨#[]⟩, .int .i64 0, .int .i64 0, .slice none 0 0, .int .i64 0, .int .i64 0, .int .i64 0, .slice none 0 0, .int .i64 0, .int .i64 0, .string ⟨#[]⟩, .string ⟨#[]⟩, .string ⟨#[]⟩] := by rw [hW4, setCell_eq_setRow y7 z5.heap.size 2 _ _ _ _ x7]; rfl
  have x4 : W4.heap[z5.heap.size]? = some (.cells #[.int .i64 n128, .int .i64 n129, .slice ao al.length ac, .int .i64 n131, .int .i64 n132, .int .i64 n138, .string ⟨#[]⟩, .slice none 0 0, .string ⟨#[]⟩, .string ⟨#[]⟩, .string ⟨#[]⟩, .string ⟨#[]⟩, .int .i64 0, .int .i64 0, .slice none 0 0, .int .i64 0, .int .i64 0, .int .i64 0, .slice none 0 0, .int .i64 0, .int .i64 0, .string ⟨#[]⟩, .string ⟨#[]⟩, .string ⟨#[]⟩] 37 (0, 0)) := by rw [hR4]; exact setRow_heap _ _ _ _ _ _ x7
  have c4b : Below W2.heap.size W2 W4 := by rw [hR4]; exact setRow_belowT (belowTr (unhide C3) k37) (unhide HAA)
  have hra4 : RowApp W4 ao al := by rw [hR4]; exact rowApp_setT hra x7 (noB_of rfl)
  have C4 := hide c4b; have HX4 := hide x4; have HRA4 := hide hra4; have HW4 := hide hW4
  have K4 : Hid (Below W4.heap.size W4 W4) := hide (Below.refl _ _)
  clear hra k7 k37 x7 hW4 hR4 x4 c4b hra4 C3 HX3 K3 B6 NA NL130
  go_upto_region 4 with fail
  rw [← unhide HW4]
  clear d2 e2 HW4
  go_wp2_with fail
  refine (unhide NL139 _ (belowTr (unhide C4) (unhide K4))).mono ?_
  rintro e z7 ⟨rfl, j7⟩
  have B7 := hide (belowTr (unhide K4) j7)
  clear j7
  go_wp2_with fail
  refine (unhide NU139 _).mono ?_
  rintro e q ⟨rfl, hq⟩
  have hq' := hq.symm
  subst hq'
  clear hq
  go_wp2_with fail
  refine (unhide NL140 _ (belowTr (unhide C4) (unhide B7))).mono ?_
  rintro e z8 ⟨rfl, j8⟩
  have B8 := hide (belowTr (unhide B7) j8)
  clear j8
  go_wp2_with fail
  refine (unhide NU140 _).mono ?_
  rintro e q ⟨rfl, hq⟩
  have hq' := hq.symm
  subst hq'
  clear hq
  go_wp2_with fail
  refine (unhide NL141 _ (belowTr (unhide C4) (unhide B8))).mono ?_
  rintro e z9 ⟨rfl, j9⟩
  have B9 := hide (belowTr (unhide B8) j9)
  clear j9
  go_wp2_with fail
  refine (unhide NL142 _ (belowTr (unhide C4) (unhide B9))).mono ?_
  rintro e z10 ⟨rfl, j10⟩
  have B10 := hide (belowTr (unhide B9) j10)
  clear j10
  go_wp2_with fail
  refine (unhide NL143 _ (belowTr (unhide C4) (unhide B10))).mono ?_
  rintro e z11 ⟨rfl, j11⟩
  have B11 := hide (belowTr (unhide B10) j11)
  clear j11
  have x5 := ((unhide B11).block _ (block_ltQ (unhide HX4))).trans (unhide HX4)
  obtain ⟨W5, hW5⟩ : ∃ W5, W5 = z11.setRow z5.heap.size #[.int .i64 n128, .int .i64 n129, .slice ao al.length ac, .int .i64 n131, .int .i64 n132, .int .i64 n138, .string ⟨#[]⟩, .slice none 0 0, .string ⟨#[]⟩, .string ⟨#[]⟩, .string ⟨#[]⟩, .string ⟨#[]⟩, .int .i64 0, .int .i64 0, .slice none 0 0, .int .i64 0, .int .i64 0, .int .i64 0, .slice none 0 0, .int .i64 n139, .int .i64 n140, .string g141, .string g142, .string g143] := ⟨_, rfl⟩
  have x5b : W5.heap[z5.heap.size]? = some (.cells #[.int .i64 n128, .int .i64 n129, .slice ao al.length ac, .int .i64 n131, .int .i64 n132, .int .i64 n138, .string ⟨#[]⟩, .slice none 0 0, .string ⟨#[]⟩, .string ⟨#[]⟩, .string ⟨#[]⟩, .string ⟨#[]⟩, .int .i64 0, .int .i64 0, .slice none 0 0, .int .i64 0, .int .i64 0, .int .i64 0, .slice none 0 0, .int .i64 n139, .int .i64 n140, .string g141, .string g142, .string g143] 37 (0, 0)) := by rw [hW5]; exact setRow_heap _ _ _ _ _ _ x5
  have c5b : Below W2.heap.size W2 W5 := by rw [hW5]; exact setRow_belowT (belowTr (unhide C4) (unhide B11)) (unhide HAA)
  have hra5 : RowApp W5 ao al := by rw [hW5]; exact rowApp_setT ((unhide HRA4).below (unhide B11)) x5 (noB_of rfl)
  have hR5 : ((((z11.setCell ⟨z5.heap.size, 19, none⟩ (.int .i64 n139)).setCell ⟨z5.heap.size, 20, none⟩ (.int .i64 n140)).setCell ⟨z5.heap.size, 21, none⟩ (.string g141)).setCell ⟨z5.heap.size, 22, none⟩ (.string g142)).setCell ⟨z5.heap.size, 23, none⟩ (.string g143) = W5 := by
    rw [hW5]
    exact chain5 _ _ _ _ _ x5
  have C5 := hide c5b; have HX5 := hide x5b; have HRA5 := hide hra5; have HR5 := hide hR5
  have K5 : Hid (Below W5.heap.size W5 W5) := hide (Below.refl _ _)
  have q19 : z11.cell? ⟨z5.heap.size, 19, none⟩ = some (.int .i64 0) := cell_of_row _ _ 19 _ _ _ x5
  have q20 : z11.cell? ⟨z5.heap.size, 20, none⟩ = some (.int .i64 0) := cell_of_row _ _ 20 _ _ _ x5
  have q21 : z11.cell? ⟨z5.heap.size, 21, none⟩ = some (.string ⟨#[]⟩) := cell_of_row _ _ 21 _ _ _ x5
  have q22 : z11.cell? ⟨z5.heap.size, 22, none⟩ = some (.string ⟨#[]⟩) := cell_of_row _ _ 22 _ _ _ x5
  have q23 : z11.cell? ⟨z5.heap.size, 23, none⟩ = some (.string ⟨#[]⟩) := cell_of_row _ _ 23 _ _ _ x5
  have f19 : z11.frozen? ⟨z5.heap.size, 19, none⟩ = false := frozen_of_row _ _ 19 _ _ x5
  have f20 : z11.frozen? ⟨z5.heap.size, 20, none⟩ = false := frozen_of_row _ _ 20 _ _ x5
  have f21 : z11.frozen? ⟨z5.heap.size, 21, none⟩ = false := frozen_of_row _ _ 21 _ _ x5
  have f22 : z11.frozen? ⟨z5.heap.size, 22, none⟩ = false := frozen_of_row _ _ 22 _ _ x5
  have f23 : z11.frozen? ⟨z5.heap.size, 23, none⟩ = false := frozen_of_row _ _ 23 _ _ x5
  clear x5 hW5 x5b c5b hra5 hR5
  go_upto_region 5 with fail
  rw [unhide HR5]
  clear HR5 q19 q20 q21 q22 q23 f19 f20 f21 f22 f23 C4 K4 HX4 HRA4 NL139 NL140 NL141 NL142 NL143 NU139 NU140
  go_wp2_with fail
  refine (unhide NL133 _ (belowTr (unhide C5) (unhide K5))).mono ?_
  rintro e z12 ⟨rfl, j12⟩
  have B12 := hide (belowTr (unhide K5) j12)
  clear j12
  go_upto_if 51 with fail
  go_cut [] (fun wx => ∃ f : Fl, (g133.size = 0 ∨ ok = true) ∧ f.strip = FD ∧ FlOK wx f ∧ (∀ p, f.ro = some p → z5.heap.size < p.block) ∧ wx.heap[z5.heap.size]? = some (.cells #[.int .i64 n128, .int .i64 n129, .slice ao al.length ac, .int .i64 n131, .int .i64 n132, .int .i64 n138, .string f.id, .slice f.apo f.apps.length f.apc, .string f.isig, .string f.irest, .string f.csig, .string f.crest, .int .i64 f.ways.x, .int .i64 f.ways.y, .slice f.ways.listo f.ways.list.length f.ways.listc, .int .i64 f.md, .int .i64 f.mo, .int .i64 f.mf, .slice f.ro f.row.length f.rc, .int .i64 n139, .int .i64 n140, .string g141, .string g142, .string g143] 37 (0, 0)) ∧ RowApp wx ao al ∧ Below W2.heap.size W2 wx)
  case first =>
    have x6 := ((unhide B12).block _ (block_ltQ (unhide HX5))).trans (unhide HX5)
    have HX6 := hide x6; have HRA6 := hide ((unhide HRA5).below (unhide B12)); have C6 := hide (belowTr (unhide C5) (unhide B12))
    have K6 : Hid (Below z12.heap.size z12 z12) := hide (Below.refl _ _)
    clear x6 HX5 HRA5 C5 K5
    generalize hbb : (!g133.toList.isEmpty) = bb
    cases bb with
    | false =>
      have hnil : g133.toList = [] := by simpa using hbb
      obtain rfl : g133 = ⟨#[]⟩ := toList_injQ (hnil.trans (by simp))
      have hfd : flZ.strip = FD := unhide HF0 rfl
      have HFZ := hide hfd
      clear hfd hbb hnil
      go_wp2
      go_meet
      exact ⟨flZ, .inl rfl, unhide HFZ, flZ_ok _, fun p hp => (by cases hp), unhide HX6, unhide HRA6, unhide C6⟩
    | true =>
    have h0 : g133.size ≠ 0 := fun h => by
      obtain rfl : g133 = ⟨#[]⟩ := eq_of_list (List.length_eq_zero_iff.1 (by rw [← size_list]; exact h))
      simp at hbb
    have HN0 := hide h0
    clear h0 hbb
    go_wp2_with fail
    refine (unhide NL133 _ (belowTr (unhide C6) (unhide K6))).mono ?_
    rintro e z13 ⟨rfl, j13⟩
    have B13 := hide (belowTr (unhide K6) j13)
    clear j13
    go_wp2_with fail
    refine (unhide NF _).mono ?_
    rintro e y14 ⟨⟨f, rfl, hfok, hfs, hfro⟩, k14⟩
    have k614 := belowTr (unhide B13) k14
    obtain ⟨W7, hW7⟩ : ∃ W7, W7 = (y14.alloc (.cells #[.string ⟨#[]⟩, .slice none 0 0, .string ⟨#[]⟩, .string ⟨#[]⟩, .string ⟨#[]⟩, .string ⟨#[]⟩, .int .i64 0, .int .i64 0, .slice none 0 0, .int .i64 0, .int .i64 0, .int .i64 0, .slice none 0 0] 33)).setRow y14.heap.size #[.string f.id, .slice f.apo f.apps.length f.apc, .string f.isig, .string f.irest, .string f.csig, .string f.crest, .int .i64 f.ways.x, .int .i64 f.ways.y, .slice f.ways.listo f.ways.list.length f.ways.listc, .int .i64 f.md, .int .i64 f.mo, .int .i64 f.mf, .slice f.ro f.row.length f.rc] := ⟨_, rfl⟩
    have hz7 : (y14.alloc (.cells #[.string ⟨#[]⟩, .slice none 0 0, .string ⟨#[]⟩, .string ⟨#[]⟩, .string ⟨#[]⟩, .string ⟨#[]⟩, .int .i64 0, .int .i64 0, .slice none 0 0, .int .i64 0, .int .i64 0, .int .i64 0, .slice none 0 0] 33)).heap[y14.heap.size]? = some (.cells #[.string ⟨#[]⟩, .slice none 0 0, .string ⟨#[]⟩, .string ⟨#[]⟩, .string ⟨#[]⟩, .string ⟨#[]⟩, .int .i64 0, .int .i64 0, .slice none 0 0, .int .i64 0, .int .i64 0, .int .i64 0, .slice none 0 0] 33 (0, 0)) := heap_alloc_new _ _
    have hX7 : W7.heap[y14.heap.size]? = some (.cells #[.string f.id, .slice f.apo f.apps.length f.apc, .string f.isig, .string f.irest, .string f.csig, .string f.crest, .int .i64 f.ways.x, .int .i64 f.ways.y, .slice f.ways.listo f.ways.list.length f.ways.listc, .int .i64 f.md, .int .i64 f.mo, .int .i64 f.mf, .slice f.ro f.row.length f.rc] 33 (0, 0)) := by rw [hW7]; exact setRow_heap _ _ _ _ _ _ hz7
    have hB7 : Below y14.heap.size y14 W7 := by rw [hW7]; exact setRow_belowT ((Below.refl _ _).alloc (Nat.le_refl _) _) (Nat.le_refl _)
    have k67 := belowTr k614 hB7
    have x7 := (k67.block _ (block_ltQ (unhide HX6))).trans (unhide HX6)
    have HRO : Hid (∀ p, f.ro = some p → z5.heap.size < p.block) := hide (fun p hp => by
      have h1 := hfro p hp; have h2 := block_ltQ (unhide HX6); have h3 := (unhide B13).size
      omega)
    have HFS := hide hfs; have HFO := hide (hfok.below hB7); have HZ7 := hide hz7; have HX7 := hide hX7; have HW7 := hide hW7; have HXA := hide x7
    have HRA7 := hide ((unhide HRA6).below k67); have C7 := hide (belowTr (unhide C6) k67)
    clear hfok hfs hfro k14 k614 hW7 hz7 hX7 hB7 k67 x7 HX6 HRA6 C6 K6
    go_upto_region 7 with (refine wpList_store_row rfl _ _ _ rfl y14.heap.size #[.string f.id, .slice f.apo f.apps.length f.apc, .string f.isig, .string f.irest, .string f.csig, .string f.crest, .int .i64 f.ways.x, .int .i64 f.ways.y, .slice f.ways.listo f.ways.list.length f.ways.listc, .int .i64 f.md, .int .i64 f.mo, .int .i64 f.mf, .slice f.ro f.row.length f.rc] rfl rfl _ _ (unhide HZ7) infoFl rfl (flC_one f) ?_)
    rw [← unhide HW7]
    cases ok with
    | false =>
      have hxr := (((unhide C7).block _ (block_ltQ (unhide HXR))).trans (unhide HXR))
      obtain ⟨hRL, hRE⟩ := unhide HNO (by rw [unhide HDC]; apply decide_eq_false; rintro ⟨h1 | h1, _⟩; exact unhide HN0 h1; cases h1)
      have HX8 := hide hxr
      go_wp2_with (refine wpList_store_row rfl _ _ _ rfl (w.heap.size + 1) (anC anNil) rfl rfl _ _ (unhide HX8) infoAn rfl (anC_one _) ?_)
      refine bodyPost_ret (v := .tuple #[.agg (anC anNil), .int .i64 1]) (results_cell_tmpT rfl _ _ (w.heap.size + 1) 37 (anC anNil) (0, 0) _ _ rfl rfl (setRow_heap _ _ _ _ _ _ (unhide HX8)) Tryz.underlying37 rfl infoAn) rfl ⟨⟨anNil, retA rfl hRE.symm, anNil_ok _, hRL.symm⟩, setRow_belowT (belowTr (unhide HB2) (unhide C7)) (by omega)⟩
    | true =>
      have HST := hide (unhide HFS rfl)
      obtain ⟨W8, hW8⟩ : ∃ W8, W8 = W7.setRow z5.heap.size #[.int .i64 n128, .int .i64 n129, .slice ao al.length ac, .int .i64 n131, .int .i64 n132, .int .i64 n138, .string f.id, .slice f.apo f.apps.length f.apc, .string f.isig, .string f.irest, .string f.csig, .string f.crest, .int .i64 f.ways.x, .int .i64 f.ways.y, .slice f.ways.listo f.ways.list.length f.ways.listc, .int .i64 f.md, .int .i64 f.mo, .int .i64 f.mf, .slice f.ro f.row.length f.rc, .int .i64 n139, .int .i64 n140, .string g141, .string g142, .string g143] := ⟨_, rfl⟩
      have hX8 : W8.heap[z5.heap.size]? = some (.cells #[.int .i64 n128, .int .i64 n129, .slice ao al.length ac, .int .i64 n131, .int .i64 n132, .int .i64 n138, .string f.id, .slice f.apo f.apps.length f.apc, .string f.isig, .string f.irest, .string f.csig, .string f.crest, .int .i64 f.ways.x, .int .i64 f.ways.y, .slice f.ways.listo f.ways.list.length f.ways.listc, .int .i64 f.md, .int .i64 f.mo, .int .i64 f.mf, .slice f.ro f.row.length f.rc, .int .i64 n139, .int .i64 n140, .string g141, .string g142, .string g143] 37 (0, 0)) := by rw [hW8]; exact setRow_heap _ _ _ _ _ _ (unhide HXA)
      have hF8 : FlOK W8 f := by rw [hW8]; exact flOK_setT (unhide HFO) (unhide HXA) (noB_of rfl) (unhide HRO)
      have hR8 : RowApp W8 ao al := by rw [hW8]; exact rowApp_setT (unhide HRA7) (unhide HXA) (noB_of rfl)
      have hC8 : Below W2.heap.size W2 W8 := by rw [hW8]; exact setRow_belowT (unhide C7) (unhide HAA)
      have HX8 := hide hX8; have HF8 := hide hF8; have HR8 := hide hR8; have HC8 := hide hC8; have HW8 := hide hW8
      clear hX8 hF8 hR8 hC8 hW8
      go_wp2_with (first
        | refine wpList_load_mid rfl _ _ rfl y14.heap.size 0 rfl [.string f.id, .slice f.apo f.apps.length f.apc, .string f.isig, .string f.irest, .string f.csig, .string f.crest, .int .i64 f.ways.x, .int .i64 f.ways.y, .slice f.ways.listo f.ways.list.length f.ways.listc, .int .i64 f.md, .int .i64 f.mo, .int .i64 f.mf, .slice f.ro f.row.length f.rc] _ (range_rowT (unhide HX7)) Tryz.underlying33 rfl infoFl ?_
        | refine wpList_store_spl rfl _ _ _ rfl z5.heap.size 6 #[.string f.id, .slice f.apo f.apps.length f.apc, .string f.isig, .string f.irest, .string f.csig, .string f.crest, .int .i64 f.ways.x, .int .i64 f.ways.y, .slice f.ways.listo f.ways.list.length f.ways.listc, .int .i64 f.md, .int .i64 f.mo, .int .i64 f.mf, .slice f.ro f.row.length f.rc] rfl rfl _ #[.int .i64 n128, .int .i64 n129, .slice ao al.length ac, .int .i64 n131, .int .i64 n132, .int .i64 n138, .string ⟨#[]⟩, .slice none 0 0, .string ⟨#[]⟩, .string ⟨#[]⟩, .string ⟨#[]⟩, .string ⟨#[]⟩, .int .i64 0, .int .i64 0, .slice none 0 0, .int .i64 0, .int .i64 0, .int .i64 0, .slice none 0 0, .int .i64 n139, .int .i64 n140, .string g141, .string g142, .string g143] #[.int .i64 n128, .int .i64 n129, .slice ao al.length ac, .int .i64 n131, .int .i64 n132, .int .i64 n138, .string f.id, .slice f.apo f.apps.length f.apc, .string f.isig, .string f.irest, .string f.csig, .string f.crest, .int .i64 f.ways.x, .int .i64 f.ways.y, .slice f.ways.listo f.ways.list.length f.ways.listc, .int .i64 f.md, .int .i64 f.mo, .int .i64 f.mf, .slice f.ro f.row.length f.rc, .int .i64 n139, .int .i64 n140, .string g141, .string g142, .string g143] (unhide HXA) infoFl (Nat.le_of_ble_eq_true rfl) (flC_one f) (spl24_13 _ _ _ _ _ _ _ _ _ _ _ _ _ _ _ _ _ _ _ _ _ _ _ _ _ _ _ _ _ _ _ _ _ _ _ _ _) ?_)
      rw [← unhide HW8]
      go_meet
      exact ⟨f, .inr trivial, (unhide HST).trans (unhide HFD).symm, unhide HF8, unhide HRO, unhide HX8, unhide HR8, unhide HC8⟩
  case rest =>
  obtain ⟨f, hor, hfs, hfok, hro, hx6, hra6, hc6⟩ := hcut
  have HOR := hide hor; have HFS := hide hfs; have HFO := hide hfok; have HRO := hide hro; have HX6 := hide hx6; have HRA6 := hide hra6; have C9 := hide hc6
  have K9 : Hid (Below wc.heap.size wc wc) := hide (Below.refl _ _)
  clear hor hfs hfok hro hx6 hra6 hc6 HX5 HRA5 C5 K5 NF NL133 B12
  go_wp2_with fail
  refine (unhide NL134 _ (belowTr (unhide C9) (unhide K9))).mono ?_
  rintro e z14 ⟨rfl, j14⟩
  have B14 := hide (belowTr (unhide K9) j14)
  clear j14
  go_wp2_with fail
  refine (unhide NL135 _ (belowTr (unhide C9) (unhide B14))).mono ?_
  rintro e z15 ⟨rfl, j15⟩
  have B15 := hide (belowTr (unhide B14) j15)
  clear j15
  go_wp2_with fail
  refine (unhide NL136 _ (belowTr (unhide C9) (unhide B15))).mono ?_
  rintro e z16 ⟨rfl, j16⟩
  have B16 := hide (belowTr (unhide B15) j16)
  clear j16
  go_wp2_with fail
  refine (unhide NL137 _ (belowTr (unhide C9) (unhide B16))).mono ?_
  rintro e z17 ⟨rfl, j17⟩
  have B17 := hide (belowTr (unhide B16) j17)
  clear j17
  have x9 := ((unhide B17).block _ (block_ltQ (unhide HX6))).trans (unhide HX6)
  obtain ⟨aD, haD⟩ : ∃ aD : An, aD = ⟨n128, n129, ao, al, ac, n131, n132, n138, { f with isig := g134, irest := g135, csig := g136, crest := g137 }, n139, n140, g141, g142, g143⟩ := ⟨_, rfl⟩
  obtain ⟨W10, hW10⟩ : ∃ W10, W10 = z17.setRow z5.heap.size #[.int .i64 n128, .int .i64 n129, .slice ao al.length ac, .int .i64 n131, .int .i64 n132, .int .i64 n138, .string f.id, .slice f.apo f.apps.length f.apc, .string g134, .string g135, .string g136, .string g137, .int .i64 f.ways.x, .int .i64 f.ways.y, .slice f.ways.listo f.ways.list.length f.ways.listc, .int .i64 f.md, .int .i64 f.mo, .int .i64 f.mf, .slice f.ro f.row.length f.rc, .int .i64 n139, .int .i64 n140, .string g141, .string g142, .string g143] := ⟨_, rfl⟩
  have x10 : W10.heap[z5.heap.size]? = some (.cells (anC aD) 37 (0, 0)) := by rw [hW10, haD]; exact setRow_heap _ _ _ _ _ _ x9
  have c10 : Below W2.heap.size W2 W10 := by rw [hW10]; exact setRow_belowT (belowTr (unhide C9) (unhide B17)) (unhide HAA)
  have hra10 : RowApp W10 ao al := by rw [hW10]; exact rowApp_setT ((unhide HRA6).below (unhide B17)) x9 (noB_of rfl)
  have hf10 : FlOK W10 f := by rw [hW10]; exact flOK_setT ((unhide HFO).below (unhide B17)) x9 (noB_of rfl) (unhide HRO)
  obtain ⟨nb1, nb2, nb3, nb4, nb5, nb6, nb7⟩ := unhide HNB
  have hok10 : AnOK W10 aD := by rw [haD]; exact ⟨hra10, ⟨hf10.idz, hf10.apps, hf10.ways, hf10.row, hf10.nums, hf10.len, hf10.md, hf10.mo, hf10.mf⟩, nb1, nb2, nb3, nb4, nb5, nb6, nb7⟩
  have hst : aD.strip = AD := by rw [haD, unhide HAD, ← unhide HFS]; rfl
  have n3 := RA aD W10 hok10 (by rw [haD]; exact unhide HZZ)
  have HAE : Hid (answerE aD = answerE AD) := hide (answerE_like hst)
  have HAS : Hid (answerS aD = answerS AD) := hide (answerS_like hst)
  have HRO10 : Hid (∀ p, aD.fl.ro = some p → w.heap.size + 1 < p.block) := hide (fun p hp => by
    have h1 := unhide HRO p (by rw [haD] at hp; exact hp); have h2 := unhide HSW; have h3 := unhide HAA; omega)
  generalize answerE aD = ae2 at *
  generalize answerS aD = aS at *
  have HL24 := hide (anC_one aD); have HLS := hide (anC_size aD)
  obtain ⟨L, hL⟩ : ∃ L, L = (anC aD).toList := ⟨_, rfl⟩
  have hL2 : anC aD = L.toArray := by rw [hL]
  have HL2 := hide hL2
  rw [hL2] at n3 x10 HL24 HLS
  have N3 := hide n3; have HX10 := hide x10; have C10 := hide c10; have HOK := hide hok10; have HST := hide hst
  have hR10 : (((z17.setCell ⟨z5.heap.size, 8, none⟩ (.string g134)).setCell ⟨z5.heap.size, 9, none⟩ (.string g135)).setCell ⟨z5.heap.size, 10, none⟩ (.string g136)).setCell ⟨z5.heap.size, 11, none⟩ (.string g137) = W10 := by
    rw [hW10]
    exact chain4 _ _ _ _ x9
  have HR10 := hide hR10
  have q8 : z17.cell? ⟨z5.heap.size, 8, none⟩ = some (.string f.isig) := cell_of_row _ _ 8 _ _ _ x9
  have q9 : z17.cell? ⟨z5.heap.size, 9, none⟩ = some (.string f.irest) := cell_of_row _ _ 9 _ _ _ x9
  have q10 : z17.cell? ⟨z5.heap.size, 10, none⟩ = some (.string f.csig) := cell_of_row _ _ 10 _ _ _ x9
  have q11 : z17.cell? ⟨z5.heap.size, 11, none⟩ = some (.string f.crest) := cell_of_row _ _ 11 _ _ _ x9
  have f8 : z17.frozen? ⟨z5.heap.size, 8, none⟩ = false := frozen_of_row _ _ 8 _ _ x9
  have f9 : z17.frozen? ⟨z5.heap.size, 9, none⟩ = false := frozen_of_row _ _ 9 _ _ x9
  have f10 : z17.frozen? ⟨z5.heap.size, 10, none⟩ = false := frozen_of_row _ _ 10 _ _ x9
  have f11 : z17.frozen? ⟨z5.heap.size, 11, none⟩ = false := frozen_of_row _ _ 11 _ _ x9
  clear x9 hR10 haD hW10 x10 c10 hra10 hf10 hok10 hst n3 hL hL2 nb1 nb2 nb3 nb4 nb5 nb6 nb7 RA HRA6 HFO HX6 C9 K9 NL134 NL135 NL136 NL137 HNB HZZ HAD HFD
  go_upto_region 11 with fail
  rw [unhide HR10]
  clear HR10 q8 q9 q10 q11 f8 f9 f10 f11
  go_wp2_with (first | refine wpList_load_mid rfl _ _ rfl z5.heap.size 0 rfl L _ (range_rowT (unhide HX10)) Tryz.underlying37 rfl (by rw [show L.length = L.toArray.size by simp, unhide HLS]; exact infoAn) ?_ | fail)
  refine (unhide N3).mono ?_
  rintro e w5 ⟨rfl, hb5⟩
  have c11 := belowTr (unhide C10) hb5
  have qs := unhide HCS w5 c11
  have HXR5 := hide ((c11.block _ (block_ltQ (unhide HXR))).trans (unhide HXR))
  have HA5 := hide ((hb5.block _ (block_ltQ (unhide HX10))).trans (unhide HX10))
  have HB5 := hide (belowTr (unhide HB2) c11)
  have HOK5 := hide ((unhide HOK).below hb5)
  clear hb5 c11 HX10 C10 HOK N3 HXR HXS HB2
  have hno : rw1 = false → RL = anNil ∧ RE = 1 := unhide HNO
  by_cases hae : ae2 = 0
  case neg =>
    have t1 : (ae2 != 0) = true := by simpa using hae
    have h0 : rw1 = false := by rw [unhide HDC]; apply decide_eq_false; rw [← unhide HAE]; exact fun h => hae h.2.1
    obtain ⟨hRL, hRE⟩ := hno h0
    have HNO2 := hide hRL; have HNE := hide hRE
    clear hno h0 hRL hRE hae
    go_wp2_with (refine wpList_store_row rfl _ _ _ rfl (w.heap.size + 1) (anC anNil) rfl rfl _ _ (unhide HXR5) infoAn rfl (anC_one _) ?_)
    refine bodyPost_ret (v := .tuple #[.agg (anC anNil), .int .i64 1]) (results_cell_tmpT rfl _ _ (w.heap.size + 1) 37 (anC anNil) (0, 0) _ _ rfl rfl (setRow_heap _ _ _ _ _ _ (unhide HXR5)) Tryz.underlying37 rfl infoAn) rfl ⟨⟨anNil, retA rfl (unhide HNE).symm, anNil_ok _, (unhide HNO2).symm⟩, setRow_belowT (unhide HB5) (by omega)⟩
  by_cases hse : aS = s
  case neg =>
    have t1 : (ae2 != 0) = false := by simpa using hae
    have t2 : (aS.toList == s.toList) = false := toList_neQ hse
    have h0 : rw1 = false := by rw [unhide HDC]; apply decide_eq_false; rw [← unhide HAS]; exact fun h => hse h.2.2
    obtain ⟨hRL, hRE⟩ := hno h0
    have HNO2 := hide hRL; have HNE := hide hRE
    clear hno h0 hRL hRE hse hae
    go_wp2_with (refine wpList_store_row rfl _ _ _ rfl (w.heap.size + 1) (anC anNil) rfl rfl _ _ (unhide HXR5) infoAn rfl (anC_one _) ?_)
    refine bodyPost_ret (v := .tuple #[.agg (anC anNil), .int .i64 1]) (results_cell_tmpT rfl _ _ (w.heap.size + 1) 37 (anC anNil) (0, 0) _ _ rfl rfl (setRow_heap _ _ _ _ _ _ (unhide HXR5)) Tryz.underlying37 rfl infoAn) rfl ⟨⟨anNil, retA rfl (unhide HNE).symm, anNil_ok _, (unhide HNO2).symm⟩, setRow_belowT (unhide HB5) (by omega)⟩
  have t1 : (ae2 != 0) = false := by simpa using hae
  have t2 : (aS.toList == s.toList) = true := by rw [hse]; simp
  have h0 : rw1 = true := by rw [unhide HDC]; apply decide_eq_true; rw [← unhide HAE, ← unhide HAS]; exact ⟨unhide HOR, hae, hse⟩
  obtain ⟨hRL, hRE⟩ := (unhide HYES : rw1 = true → RL = AD ∧ RE = 0) h0
  have HYL := hide hRL; have HYE := hide hRE
  clear hno h0 hRL hRE hse hae
  go_wp2_with (first
    | refine wpList_load_mid rfl _ _ rfl z5.heap.size 0 rfl L _ (range_rowT (unhide HA5)) Tryz.underlying37 rfl (by rw [show L.length = L.toArray.size by simp, unhide HLS]; exact infoAn) ?_
    | refine wpList_store_row rfl _ _ _ rfl (w.heap.size + 1) L.toArray rfl rfl _ _ (unhide HXR5) (by rw [unhide HLS]; exact infoAn) (by rw [unhide HLS]; rfl) (unhide HL24) ?_)
  refine bodyPost_ret (v := .tuple #[.agg L.toArray, .int .i64 0]) (results_cell_tmpT rfl _ _ (w.heap.size + 1) 37 L.toArray (0, 0) _ _ rfl rfl (setRow_heap _ _ _ _ _ _ (unhide HXR5)) Tryz.underlying37 rfl (by rw [unhide HLS]; exact infoAn)) rfl ⟨⟨aD, retA (unhide HL2).symm (unhide HYE).symm, anOK_setT (unhide HOK5) (unhide HXR5) (noB_of rfl) (unhide HRO10), (unhide HST).trans (unhide HYL).symm⟩, setRow_belowT (unhide HB5) (by omega)⟩
end Go.Proofs.YtfpglpefofcdeaaGreatDoor
