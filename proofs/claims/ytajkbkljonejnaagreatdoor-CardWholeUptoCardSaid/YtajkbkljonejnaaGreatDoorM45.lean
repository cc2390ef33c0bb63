/- What is wrong with a card's plan, by the document's own: Plan. -/
import Derived.Test.YtajkbkljonejnaaGreatDoorM38
import Derived.Test.YtajkbkljonejnaaGreatDoorM44
namespace Go.Proofs.YtajkbkljonejnaaGreatDoor
open Go.RowKit
set_option linter.unusedVariables false
set_option linter.unusedSimpArgs false
set_option maxRecDepth 100000
set_option maxHeartbeats 4000000 in
theorem rplanC_any (id pin key : ByteArray) (pu on ru tr ve : Int) (sp sq : ByteArray) (fs : List (Int × Int)) (ao : Option Addr) (cap : Nat) (w : World) (hi : id.size ≤ maxLen) (hp : pin.size ≤ maxLen) (hr : FRow w ao fs) (hn : FNums fs) (hl : (fs.length : Int) ≤ 9000000000000) :
    Calls Tryz.prog 6 #[.agg #[.string id, .string pin, .string key, .int .i64 pu, .int .i64 on, .int .i64 ru, .int .i64 tr, .int .i64 ve, .string sp, .string sq, .slice ao fs.length cap]] w fun e w' => e = .returned (.int .i64 (planCE id pin key pu on ru tr ve sp sq fs)) ∧ Below w.heap.size w w' := by
  obtain ⟨W1, hW1⟩ : ∃ W1, W1 = w.alloc (.cells #[.string id, .string pin, .string key, .int .i64 pu, .int .i64 on, .int .i64 ru, .int .i64 tr, .int .i64 ve, .string sp, .string sq, .slice ao fs.length cap] 26) := ⟨_, rfl⟩
  have hB1 : Below w.heap.size w W1 := by rw [hW1]; exact (Below.refl _ _).alloc (Nat.le_refl _) _
  have hX1 : W1.heap[w.heap.size]? = some (.cells #[.string id, .string pin, .string key, .int .i64 pu, .int .i64 on, .int .i64 ru, .int .i64 tr, .int .i64 ve, .string sp, .string sq, .slice ao fs.length cap] 26 (0, 0)) := by rw [hW1]; exact heap_alloc_new _ _
  obtain ⟨R, hR⟩ : ∃ R, R = planCE id pin key pu on ru tr ve sp sq fs := ⟨_, rfl⟩
  rw [← hR]
  unfold planCE at hR
  have c0 : W1.cell? ⟨w.heap.size, 0, none⟩ = some (.string id) := cell_of_row _ _ 0 _ _ _ hX1
  have c1 : W1.cell? ⟨w.heap.size, 1, none⟩ = some (.string pin) := cell_of_row _ _ 1 _ _ _ hX1
  have c2 : W1.cell? ⟨w.heap.size, 2, none⟩ = some (.string key) := cell_of_row _ _ 2 _ _ _ hX1
  have c3 : W1.cell? ⟨w.heap.size, 3, none⟩ = some (.int .i64 pu) := cell_of_row _ _ 3 _ _ _ hX1
  have c4 : W1.cell? ⟨w.heap.size, 4, none⟩ = some (.int .i64 on) := cell_of_row _ _ 4 _ _ _ hX1
  have c5 : W1.cell? ⟨w.heap.size, 5, none⟩ = some (.int .i64 ru) := cell_of_row _ _ 5 _ _ _ hX1
  have c6 : W1.cell? ⟨w.heap.size, 6, none⟩ = some (.int .i64 tr) := cell_of_row _ _ 6 _ _ _ hX1
  have c7 : W1.cell? ⟨w.heap.size, 7, none⟩ = some (.int .i64 ve) := cell_of_row _ _ 7 _ _ _ hX1
  have c8 : W1.cell? ⟨w.heap.size, 8, none⟩ = some (.string sp) := cell_of_row _ _ 8 _ _ _ hX1
  have c9 : W1.cell? ⟨w.heap.size, 9, none⟩ = some (.string sq) := cell_of_row _ _ 9 _ _ _ hX1
  have c10 : W1.cell? ⟨w.heap.size, 10, none⟩ = some (.slice ao fs.length cap) := cell_of_row _ _ 10 _ _ _ hX1
  have n0 := rprintF_all fs ao cap W1 (hr.below hB1) hn hl
  have n1 : ∀ w', Calls Tryz.prog 22 #[.agg #[.string sp, .string sq]] w' fun e w'' => (∃ u v, e = .returned (.tuple #[u, v, .int .i64 (secE sp sq)])) ∧ Below w'.heap.size w' w'' := fun w' => (rown_any sp sq w').mono fun e w'' h => ⟨by
    cases h.1 with
    | bad h0 he => exact ⟨_, _, he⟩
    | good g h0 he _ => rw [h0]; exact ⟨_, _, he⟩, h.2⟩
  have n2 := fun w' => rdigits_anyO id 8 19 hi w'
  have n3 := fun w' => rdigits_anyO pin 4 12 hp w'
  have n5 := fun w' => tRamount_any pu w'
  have n6 := fun w' => tRamount_any on w'
  generalize printS fs = ps at *
  generalize secE sp sq = se at *
  generalize fieldsE fs = fe at *
  generalize digitsBO id 8 19 = b1 at *
  generalize digitsBO pin 4 12 = b2 at *
  generalize inT pu 0 999999999999 = b5 at *
  generalize inT on 0 999999999999 = b6 at *
  have HB1 := hide hB1; have HW1 := hide hW1
  have N0 := hide n0
  have N1 := hide n1
  have N2 := hide n2
  have N3 := hide n3
  have N5 := hide n5
  have N6 := hide n6
  clear n0 n1 n2 n3 n5 n6 hB1 hW1 hX1 hi hp hr hn hl
  cases b1 with
  | false =>
    obtain rfl : R = 1 := hR
    go_enter Tryz.func6, Tryz.ntmps6
    go_upto_region 1 with fail
    rw [← unhide HW1]
    go_wp2_with fail
    refine (unhide N0).mono ?_
    rintro e x1 ⟨rfl, k1⟩
    have d0 := (k1.cell (World.block_lt_of_cell? _ _ c0)).trans c0
    have d1 := (k1.cell (World.block_lt_of_cell? _ _ c1)).trans c1
    have d2 := (k1.cell (World.block_lt_of_cell? _ _ c2)).trans c2
    have d3 := (k1.cell (World.block_lt_of_cell? _ _ c3)).trans c3
    have d4 := (k1.cell (World.block_lt_of_cell? _ _ c4)).trans c4
    have d5 := (k1.cell (World.block_lt_of_cell? _ _ c5)).trans c5
    have d6 := (k1.cell (World.block_lt_of_cell? _ _ c6)).trans c6
    have d7 := (k1.cell (World.block_lt_of_cell? _ _ c7)).trans c7
    have d8 := (k1.cell (World.block_lt_of_cell? _ _ c8)).trans c8
    have d9 := (k1.cell (World.block_lt_of_cell? _ _ c9)).trans c9
    have d10 := (k1.cell (World.block_lt_of_cell? _ _ c10)).trans c10
    have KB := hide ((unhide HB1).trans (k1.mono (unhide HB1).size))
    clear k1 c0 c1 c2 c3 c4 c5 c6 c7 c8 c9 c10
    go_wp2_with fail
    refine (unhide N2 _).mono ?_
    rintro e y2 ⟨rfl, hy⟩
    have hy' := hy.symm
    subst hy'
    clear hy
    go_wp2
    go_ret
    exact ⟨rfl, unhide KB⟩
  | true =>
  cases b2 with
  | false =>
    obtain rfl : R = 1 := hR
    go_enter Tryz.func6, Tryz.ntmps6
    go_upto_region 1 with fail
    rw [← unhide HW1]
    go_wp2_with fail
    refine (unhide N0).mono ?_
    rintro e x1 ⟨rfl, k1⟩
    have d0 := (k1.cell (World.block_lt_of_cell? _ _ c0)).trans c0
    have d1 := (k1.cell (World.block_lt_of_cell? _ _ c1)).trans c1
    have d2 := (k1.cell (World.block_lt_of_cell? _ _ c2)).trans c2
    have d3 := (k1.cell (World.block_lt_of_cell? _ _ c3)).trans c3
    have d4 := (k1.cell (World.block_lt_of_cell? _ _ c4)).trans c4
    have d5 := (k1.cell (World.block_lt_of_cell? _ _ c5)).trans c5
    have d6 := (k1.cell (World.block_lt_of_cell? _ _ c6)).trans c6
    have d7 := (k1.cell (World.block_lt_of_cell? _ _ c7)).trans c7
    have d8 := (k1.cell (World.block_lt_of_cell? _ _ c8)).trans c8
    have d9 := (k1.cell (World.block_lt_of_cell? _ _ c9)).trans c9
    have d10 := (k1.cell (World.block_lt_of_cell? _ _ c10)).trans c10
    have KB := hide ((unhide HB1).trans (k1.mono (unhide HB1).size))
    clear k1 c0 c1 c2 c3 c4 c5 c6 c7 c8 c9 c10
    go_wp2_with fail
    refine (unhide N2 _).mono ?_
    rintro e y2 ⟨rfl, hy⟩
    have hy' := hy.symm
    subst hy'
    clear hy
    go_wp2_with fail
    refine (unhide N3 _).mono ?_
    rintro e y3 ⟨rfl, hy⟩
    have hy' := hy.symm
    subst hy'
    clear hy
    go_wp2
    go_ret
    exact ⟨rfl, unhide KB⟩
  | true =>
  by_cases hk : key.size = 16
  case neg =>
    have hR' : R = 1 := by rw [decide_eq_false hk] at hR; exact hR
    have tk : ((key.size : Int) != 16) = true := by rw [bne_iff_ne]; omega
    clear hR
    subst hR'
    go_enter Tryz.func6, Tryz.ntmps6
    go_upto_region 1 with fail
    rw [← unhide HW1]
    go_wp2_with fail
    refine (unhide N0).mono ?_
    rintro e x1 ⟨rfl, k1⟩
    have d0 := (k1.cell (World.block_lt_of_cell? _ _ c0)).trans c0
    have d1 := (k1.cell (World.block_lt_of_cell? _ _ c1)).trans c1
    have d2 := (k1.cell (World.block_lt_of_cell? _ _ c2)).trans c2
    have d3 := (k1.cell (World.block_lt_of_cell? _ _ c3)).trans c3
    have d4 := (k1.cell (World.block_lt_of_cell? _ _ c4)).trans c4
    have d5 := (k1.cell (World.block_lt_of_cell? _ _ c5)).trans c5
    have d6 := (k1.cell (World.block_lt_of_cell? _ _ c6)).trans c6
    have d7 := (k1.cell (World.block_lt_of_cell? _ _ c7)).trans c7
    have d8 := (k1.cell (World.block_lt_of_cell? _ _ c8)).trans c8
    have d9 := (k1.cell (World.block_lt_of_cell? _ _ c9)).trans c9
    have d10 := (k1.cell (World.block_lt_of_cell? _ _ c10)).trans c10
    have KB := hide ((unhide HB1).trans (k1.mono (unhide HB1).size))
    clear k1 c0 c1 c2 c3 c4 c5 c6 c7 c8 c9 c10
    go_wp2_with fail
    refine (unhide N2 _).mono ?_
    rintro e y2 ⟨rfl, hy⟩
    have hy' := hy.symm
    subst hy'
    clear hy
    go_wp2_with fail
    refine (unhide N3 _).mono ?_
    rintro e y3 ⟨rfl, hy⟩
    have hy' := hy.symm
    subst hy'
    clear hy
    go_wp2
    go_ret
    exact ⟨rfl, unhide KB⟩
  have tk : ((key.size : Int) != 16) = false := by rw [bne_eq_false_iff_eq]; omega
  rw [decide_eq_true hk] at hR
  clear hk
  cases te : (fe == 1) with
  | true =>
    have hR' : R = 1 := by rw [te] at hR; exact hR
    clear hR
    subst hR'
    go_enter Tryz.func6, Tryz.ntmps6
    go_upto_region 1 with fail
    rw [← unhide HW1]
    go_wp2_with fail
    refine (unhide N0).mono ?_
    rintro e x1 ⟨rfl, k1⟩
    have d0 := (k1.cell (World.block_lt_of_cell? _ _ c0)).trans c0
    have d1 := (k1.cell (World.block_lt_of_cell? _ _ c1)).trans c1
    have d2 := (k1.cell (World.block_lt_of_cell? _ _ c2)).trans c2
    have d3 := (k1.cell (World.block_lt_of_cell? _ _ c3)).trans c3
    have d4 := (k1.cell (World.block_lt_of_cell? _ _ c4)).trans c4
    have d5 := (k1.cell (World.block_lt_of_cell? _ _ c5)).trans c5
    have d6 := (k1.cell (World.block_lt_of_cell? _ _ c6)).trans c6
    have d7 := (k1.cell (World.block_lt_of_cell? _ _ c7)).trans c7
    have d8 := (k1.cell (World.block_lt_of_cell? _ _ c8)).trans c8
    have d9 := (k1.cell (World.block_lt_of_cell? _ _ c9)).trans c9
    have d10 := (k1.cell (World.block_lt_of_cell? _ _ c10)).trans c10
    have KB := hide ((unhide HB1).trans (k1.mono (unhide HB1).size))
    clear k1 c0 c1 c2 c3 c4 c5 c6 c7 c8 c9 c10
    go_wp2_with fail
    refine (unhide N2 _).mono ?_
    rintro e y2 ⟨rfl, hy⟩
    have hy' := hy.symm
    subst hy'
    clear hy
    go_wp2_with fail
    refine (unhide N3 _).mono ?_
    rintro e y3 ⟨rfl, hy⟩
    have hy' := hy.symm
    subst hy'
    clear hy
    go_wp2
    go_ret
    exact ⟨rfl, unhide KB⟩
  | false =>
  rw [te] at hR
  cases b5 with
  | false =>
    obtain rfl : R = 3 := hR
    go_enter Tryz.func6, Tryz.ntmps6
    go_upto_region 1 with fail
    rw [← unhide HW1]
    go_wp2_with fail
    refine (unhide N0).mono ?_
    rintro e x1 ⟨rfl, k1⟩
    have d0 := (k1.cell (World.block_lt_of_cell? _ _ c0)).trans c0
    have d1 := (k1.cell (World.block_lt_of_cell? _ _ c1)).trans c1
    have d2 := (k1.cell (World.block_lt_of_cell? _ _ c2)).trans c2
    have d3 := (k1.cell (World.block_lt_of_cell? _ _ c3)).trans c3
    have d4 := (k1.cell (World.block_lt_of_cell? _ _ c4)).trans c4
    have d5 := (k1.cell (World.block_lt_of_cell? _ _ c5)).trans c5
    have d6 := (k1.cell (World.block_lt_of_cell? _ _ c6)).trans c6
    have d7 := (k1.cell (World.block_lt_of_cell? _ _ c7)).trans c7
    have d8 := (k1.cell (World.block_lt_of_cell? _ _ c8)).trans c8
    have d9 := (k1.cell (World.block_lt_of_cell? _ _ c9)).trans c9
    have d10 := (k1.cell (World.block_lt_of_cell? _ _ c10)).trans c10
    have KB := hide ((unhide HB1).trans (k1.mono (unhide HB1).size))
    clear k1 c0 c1 c2 c3 c4 c5 c6 c7 c8 c9 c10
    go_wp2_with fail
    refine (unhide N2 _).mono ?_
    rintro e y2 ⟨rfl, hy⟩
    have hy' := hy.symm
    subst hy'
    clear hy
    go_wp2_with fail
    refine (unhide N3 _).mono ?_
    rintro e y3 ⟨rfl, hy⟩
    have hy' := hy.symm
    subst hy'
    clear hy
    go_wp2_with fail
    refine (unhide N5 _).mono ?_
    rintro e y5 ⟨rfl, hy⟩
    have hy' := hy.symm
    subst hy'
    clear hy
    go_wp2
    go_ret
    exact ⟨rfl, unhide KB⟩
  | true =>
  cases b6 with
  | false =>
    obtain rfl : R = 3 := hR
    go_enter Tryz.func6, Tryz.ntmps6
    go_upto_region 1 with fail
    rw [← unhide HW1]
    go_wp2_with fail
    refine (unhide N0).mono ?_
    rintro e x1 ⟨rfl, k1⟩
    have d0 := (k1.cell (World.block_lt_of_cell? _ _ c0)).trans c0
    have d1 := (k1.cell (World.block_lt_of_cell? _ _ c1)).trans c1
    have d2 := (k1.cell (World.block_lt_of_cell? _ _ c2)).trans c2
    have d3 := (k1.cell (World.block_lt_of_cell? _ _ c3)).trans c3
    have d4 := (k1.cell (World.block_lt_of_cell? _ _ c4)).trans c4
    have d5 := (k1.cell (World.block_lt_of_cell? _ _ c5)).trans c5
    have d6 := (k1.cell (World.block_lt_of_cell? _ _ c6)).trans c6
    have d7 := (k1.cell (World.block_lt_of_cell? _ _ c7)).trans c7
    have d8 := (k1.cell (World.block_lt_of_cell? _ _ c8)).trans c8
    have d9 := (k1.cell (World.block_lt_of_cell? _ _ c9)).trans c9
    have d10 := (k1.cell (World.block_lt_of_cell? _ _ c10)).trans c10
    have KB := hide ((unhide HB1).trans (k1.mono (unhide HB1).size))
    clear k1 c0 c1 c2 c3 c4 c5 c6 c7 c8 c9 c10
    go_wp2_with fail
    refine (unhide N2 _).mono ?_
    rintro e y2 ⟨rfl, hy⟩
    have hy' := hy.symm
    subst hy'
    clear hy
    go_wp2_with fail
    refine (unhide N3 _).mono ?_
    rintro e y3 ⟨rfl, hy⟩
    have hy' := hy.symm
    subst hy'
    clear hy
    go_wp2_with fail
    refine (unhide N5 _).mono ?_
    rintro e y5 ⟨rfl, hy⟩
    have hy' := hy.symm
    subst hy'
    clear hy
    go_wp2_with fail
    refine (unhide N6 _).mono ?_
    rintro e y6 ⟨rfl, hy⟩
    have hy' := hy.symm
    subst hy'
    clear hy
    go_wp2
    go_ret
    exact ⟨rfl, unhide KB⟩
  | true =>
  by_cases hru0 : ru < 0
  · have hR' : R = 3 := by rw [inT_false (n := ru) (a := 0) (b := 255) (by omega)] at hR; exact hR
    clear hR
    subst hR'
    go_enter Tryz.func6, Tryz.ntmps6
    go_upto_region 1 with fail
    rw [← unhide HW1]
    go_wp2_with fail
    refine (unhide N0).mono ?_
    rintro e x1 ⟨rfl, k1⟩
    have d0 := (k1.cell (World.block_lt_of_cell? _ _ c0)).trans c0
    have d1 := (k1.cell (World.block_lt_of_cell? _ _ c1)).trans c1
    have d2 := (k1.cell (World.block_lt_of_cell? _ _ c2)).trans c2
    have d3 := (k1.cell (World.block_lt_of_cell? _ _ c3)).trans c3
    have d4 := (k1.cell (World.block_lt_of_cell? _ _ c4)).trans c4
    have d5 := (k1.cell (World.block_lt_of_cell? _ _ c5)).trans c5
    have d6 := (k1.cell (World.block_lt_of_cell? _ _ c6)).trans c6
    have d7 := (k1.cell (World.block_lt_of_cell? _ _ c7)).trans c7
    have d8 := (k1.cell (World.block_lt_of_cell? _ _ c8)).trans c8
    have d9 := (k1.cell (World.block_lt_of_cell? _ _ c9)).trans c9
    have d10 := (k1.cell (World.block_lt_of_cell? _ _ c10)).trans c10
    have KB := hide ((unhide HB1).trans (k1.mono (unhide HB1).size))
    clear k1 c0 c1 c2 c3 c4 c5 c6 c7 c8 c9 c10
    go_wp2_with fail
    refine (unhide N2 _).mono ?_
    rintro e y2 ⟨rfl, hy⟩
    have hy' := hy.symm
    subst hy'
    clear hy
    go_wp2_with fail
    refine (unhide N3 _).mono ?_
    rintro e y3 ⟨rfl, hy⟩
    have hy' := hy.symm
    subst hy'
    clear hy
    go_wp2_with fail
    refine (unhide N5 _).mono ?_
    rintro e y5 ⟨rfl, hy⟩
    have hy' := hy.symm
    subst hy'
    clear hy
    go_wp2_with fail
    refine (unhide N6 _).mono ?_
    rintro e y6 ⟨rfl, hy⟩
    have hy' := hy.symm
    subst hy'
    clear hy
    go_wp2
    go_ret
    exact ⟨rfl, unhide KB⟩
  by_cases hru1 : 255 < ru
  · have hR' : R = 3 := by rw [inT_false (n := ru) (a := 0) (b := 255) (by omega)] at hR; exact hR
    clear hR
    subst hR'
    go_enter Tryz.func6, Tryz.ntmps6
    go_upto_region 1 with fail
    rw [← unhide HW1]
    go_wp2_with fail
    refine (unhide N0).mono ?_
    rintro e x1 ⟨rfl, k1⟩
    have d0 := (k1.cell (World.block_lt_of_cell? _ _ c0)).trans c0
    have d1 := (k1.cell (World.block_lt_of_cell? _ _ c1)).trans c1
    have d2 := (k1.cell (World.block_lt_of_cell? _ _ c2)).trans c2
    have d3 := (k1.cell (World.block_lt_of_cell? _ _ c3)).trans c3
    have d4 := (k1.cell (World.block_lt_of_cell? _ _ c4)).trans c4
    have d5 := (k1.cell (World.block_lt_of_cell? _ _ c5)).trans c5
    have d6 := (k1.cell (World.block_lt_of_cell? _ _ c6)).trans c6
    have d7 := (k1.cell (World.block_lt_of_cell? _ _ c7)).trans c7
    have d8 := (k1.cell (World.block_lt_of_cell? _ _ c8)).trans c8
    have d9 := (k1.cell (World.block_lt_of_cell? _ _ c9)).trans c9
    have d10 := (k1.cell (World.block_lt_of_cell? _ _ c10)).trans c10
    have KB := hide ((unhide HB1).trans (k1.mono (unhide HB1).size))
    clear k1 c0 c1 c2 c3 c4 c5 c6 c7 c8 c9 c10
    go_wp2_with fail
    refine (unhide N2 _).mono ?_
    rintro e y2 ⟨rfl, hy⟩
    have hy' := hy.symm
    subst hy'
    clear hy
    go_wp2_with fail
    refine (unhide N3 _).mono ?_
    rintro e y3 ⟨rfl, hy⟩
    have hy' := hy.symm
    subst hy'
    clear hy
    go_wp2_with fail
    refine (unhide N5 _).mono ?_
    rintro e y5 ⟨rfl, hy⟩
    have hy' := hy.symm
    subst hy'
    clear hy
    go_wp2_with fail
    refine (unhide N6 _).mono ?_
    rintro e y6 ⟨rfl, hy⟩
    have hy' := hy.symm
    subst hy'
    clear hy
    go_wp2
    go_ret
    exact ⟨rfl, unhide KB⟩
  rw [inT_true.2 (show 0 ≤ ru ∧ ru ≤ 255 by omega)] at hR
  by_cases htr0 : tr < 1
  · have hR' : R = 3 := by rw [inT_false (n := tr) (a := 1) (b := 15) (by omega)] at hR; exact hR
    clear hR
    subst hR'
    go_enter Tryz.func6, Tryz.ntmps6
    go_upto_region 1 with fail
    rw [← unhide HW1]
    go_wp2_with fail
    refine (unhide N0).mono ?_
    rintro e x1 ⟨rfl, k1⟩
    have d0 := (k1.cell (World.block_lt_of_cell? _ _ c0)).trans c0
    have d1 := (k1.cell (World.block_lt_of_cell? _ _ c1)).trans c1
    have d2 := (k1.cell (World.block_lt_of_cell? _ _ c2)).trans c2
    have d3 := (k1.cell (World.block_lt_of_cell? _ _ c3)).trans c3
    have d4 := (k1.cell (World.block_lt_of_cell? _ _ c4)).trans c4
    have d5 := (k1.cell (World.block_lt_of_cell? _ _ c5)).trans c5
    have d6 := (k1.cell (World.block_lt_of_cell? _ _ c6)).trans c6
    have d7 := (k1.cell (World.block_lt_of_cell? _ _ c7)).trans c7
    have d8 := (k1.cell (World.block_lt_of_cell? _ _ c8)).trans c8
    have d9 := (k1.cell (World.block_lt_of_cell? _ _ c9)).trans c9
    have d10 := (k1.cell (World.block_lt_of_cell? _ _ c10)).trans c10
    have KB := hide ((unhide HB1).trans (k1.mono (unhide HB1).size))
    clear k1 c0 c1 c2 c3 c4 c5 c6 c7 c8 c9 c10
    go_wp2_with fail
    refine (unhide N2 _).mono ?_
    rintro e y2 ⟨rfl, hy⟩
    have hy' := hy.symm
    subst hy'
    clear hy
    go_wp2_with fail
    refine (unhide N3 _).mono ?_
    rintro e y3 ⟨rfl, hy⟩
    have hy' := hy.symm
    subst hy'
    clear hy
    go_wp2_with fail
    refine (unhide N5 _).mono ?_
    rintro e y5 ⟨rfl, hy⟩
    have hy' := hy.symm
    subst hy'
    clear hy
    go_wp2_with fail
    refine (unhide N6 _).mono ?_
    rintro e y6 ⟨rfl, hy⟩
    have hy' := hy.symm
    subst hy'
    clear hy
    go_wp2
    go_ret
    exact ⟨rfl, unhide KB⟩
  by_cases htr1 : 15 < tr
  · have hR' : R = 3 := by rw [inT_false (n := tr) (a := 1) (b := 15) (by omega)] at hR; exact hR
    clear hR
    subst hR'
    go_enter Tryz.func6, Tryz.ntmps6
    go_upto_region 1 with fail
    rw [← unhide HW1]
    go_wp2_with fail
    refine (unhide N0).mono ?_
    rintro e x1 ⟨rfl, k1⟩
    have d0 := (k1.cell (World.block_lt_of_cell? _ _ c0)).trans c0
    have d1 := (k1.cell (World.block_lt_of_cell? _ _ c1)).trans c1
    have d2 := (k1.cell (World.block_lt_of_cell? _ _ c2)).trans c2
    have d3 := (k1.cell (World.block_lt_of_cell? _ _ c3)).trans c3
    have d4 := (k1.cell (World.block_lt_of_cell? _ _ c4)).trans c4
    have d5 := (k1.cell (World.block_lt_of_cell? _ _ c5)).trans c5
    have d6 := (k1.cell (World.block_lt_of_cell? _ _ c6)).trans c6
    have d7 := (k1.cell (World.block_lt_of_cell? _ _ c7)).trans c7
    have d8 := (k1.cell (World.block_lt_of_cell? _ _ c8)).trans c8
    have d9 := (k1.cell (World.block_lt_of_cell? _ _ c9)).trans c9
    have d10 := (k1.cell (World.block_lt_of_cell? _ _ c10)).trans c10
    have KB := hide ((unhide HB1).trans (k1.mono (unhide HB1).size))
    clear k1 c0 c1 c2 c3 c4 c5 c6 c7 c8 c9 c10
    go_wp2_with fail
    refine (unhide N2 _).mono ?_
    rintro e y2 ⟨rfl, hy⟩
    have hy' := hy.symm
    subst hy'
    clear hy
    go_wp2_with fail
    refine (unhide N3 _).mono ?_
    rintro e y3 ⟨rfl, hy⟩
    have hy' := hy.symm
    subst hy'
    clear hy
    go_wp2_with fail
    refine (unhide N5 _).mono ?_
    rintro e y5 ⟨rfl, hy⟩
    have hy' := hy.symm
    subst hy'
    clear hy
    go_wp2_with fail
    refine (unhide N6 _).mono ?_
    rintro e y6 ⟨rfl, hy⟩
    have hy' := hy.symm
    subst hy'
    clear hy
    go_wp2
    go_ret
    exact ⟨rfl, unhide KB⟩
  rw [inT_true.2 (show 1 ≤ tr ∧ tr ≤ 15 by omega)] at hR
  by_cases hve0 : ve < 0
  · have hR' : R = 3 := by rw [inT_false (n := ve) (a := 0) (b := 255) (by omega)] at hR; exact hR
    clear hR
    subst hR'
    go_enter Tryz.func6, Tryz.ntmps6
    go_upto_region 1 with fail
    rw [← unhide HW1]
    go_wp2_with fail
    refine (unhide N0).mono ?_
    rintro e x1 ⟨rfl, k1⟩
    have d0 := (k1.cell (World.block_lt_of_cell? _ _ c0)).trans c0
    have d1 := (k1.cell (World.block_lt_of_cell? _ _ c1)).trans c1
    have d2 := (k1.cell (World.block_lt_of_cell? _ _ c2)).trans c2
    have d3 := (k1.cell (World.block_lt_of_cell? _ _ c3)).trans c3
    have d4 := (k1.cell (World.block_lt_of_cell? _ _ c4)).trans c4
    have d5 := (k1.cell (World.block_lt_of_cell? _ _ c5)).trans c5
    have d6 := (k1.cell (World.block_lt_of_cell? _ _ c6)).trans c6
    have d7 := (k1.cell (World.block_lt_of_cell? _ _ c7)).trans c7
    have d8 := (k1.cell (World.block_lt_of_cell? _ _ c8)).trans c8
    have d9 := (k1.cell (World.block_lt_of_cell? _ _ c9)).trans c9
    have d10 := (k1.cell (World.block_lt_of_cell? _ _ c10)).trans c10
    have KB := hide ((unhide HB1).trans (k1.mono (unhide HB1).size))
    clear k1 c0 c1 c2 c3 c4 c5 c6 c7 c8 c9 c10
    go_wp2_with fail
    refine (unhide N2 _).mono ?_
    rintro e y2 ⟨rfl, hy⟩
    have hy' := hy.symm
    subst hy'
    clear hy
    go_wp2_with fail
    refine (unhide N3 _).mono ?_
    rintro e y3 ⟨rfl, hy⟩
    have hy' := hy.symm
    subst hy'
    clear hy
    go_wp2_with fail
    refine (unhide N5 _).mono ?_
    rintro e y5 ⟨rfl, hy⟩
    have hy' := hy.symm
    subst hy'
    clear hy
    go_wp2_with fail
    refine (unhide N6 _).mono ?_
    rintro e y6 ⟨rfl, hy⟩
    have hy' := hy.symm
    subst hy'
    clear hy
    go_wp2
    go_ret
    exact ⟨rfl, unhide KB⟩
  by_cases hve1 : 255 < ve
  · have hR' : R = 3 := by rw [inT_false (n := ve) (a := 0) (b := 255) (by omega)] at hR; exact hR
    clear hR
    subst hR'
    go_enter Tryz.func6, Tryz.ntmps6
    go_upto_region 1 with fail
    rw [← unhide HW1]
    go_wp2_with fail
    refine (unhide N0).mono ?_
    rintro e x1 ⟨rfl, k1⟩
    have d0 := (k1.cell (World.block_lt_of_cell? _ _ c0)).trans c0
    have d1 := (k1.cell (World.block_lt_of_cell? _ _ c1)).trans c1
    have d2 := (k1.cell (World.block_lt_of_cell? _ _ c2)).trans c2
    have d3 := (k1.cell (World.block_lt_of_cell? _ _ c3)).trans c3
    have d4 := (k1.cell (World.block_lt_of_cell? _ _ c4)).trans c4
    have d5 := (k1.cell (World.block_lt_of_cell? _ _ c5)).trans c5
    have d6 := (k1.cell (World.block_lt_of_cell? _ _ c6)).trans c6
    have d7 := (k1.cell (World.block_lt_of_cell? _ _ c7)).trans c7
    have d8 := (k1.cell (World.block_lt_of_cell? _ _ c8)).trans c8
    have d9 := (k1.cell (World.block_lt_of_cell? _ _ c9)).trans c9
    have d10 := (k1.cell (World.block_lt_of_cell? _ _ c10)).trans c10
    have KB := hide ((unhide HB1).trans (k1.mono (unhide HB1).size))
    clear k1 c0 c1 c2 c3 c4 c5 c6 c7 c8 c9 c10
    go_wp2_with fail
    refine (unhide N2 _).mono ?_
    rintro e y2 ⟨rfl, hy⟩
    have hy' := hy.symm
    subst hy'
    clear hy
    go_wp2_with fail
    refine (unhide N3 _).mono ?_
    rintro e y3 ⟨rfl, hy⟩
    have hy' := hy.symm
    subst hy'
    clear hy
    go_wp2_with fail
    refine (unhide N5 _).mono ?_
    rintro e y5 ⟨rfl, hy⟩
    have hy' := hy.symm
    subst hy'
    clear hy
    go_wp2_with fail
    refine (unhide N6 _).mono ?_
    rintro e y6 ⟨rfl, hy⟩
    have hy' := hy.symm
    subst hy'
    clear hy
    go_wp2
    go_ret
    exact ⟨rfl, unhide KB⟩
  rw [inT_true.2 (show 0 ≤ ve ∧ ve ≤ 255 by omega)] at hR
  by_cases hf : 20 < fs.length
  · have hR' : R = 2 := by rw [decide_eq_true hf] at hR; exact hR
    have tl : (20 : Int) < (fs.length : Int) := by omega
    clear hR hf
    subst hR'
    go_enter Tryz.func6, Tryz.ntmps6
    go_upto_region 1 with fail
    rw [← unhide HW1]
    go_wp2_with fail
    refine (unhide N0).mono ?_
    rintro e x1 ⟨rfl, k1⟩
    have d0 := (k1.cell (World.block_lt_of_cell? _ _ c0)).trans c0
    have d1 := (k1.cell (World.block_lt_of_cell? _ _ c1)).trans c1
    have d2 := (k1.cell (World.block_lt_of_cell? _ _ c2)).trans c2
    have d3 := (k1.cell (World.block_lt_of_cell? _ _ c3)).trans c3
    have d4 := (k1.cell (World.block_lt_of_cell? _ _ c4)).trans c4
    have d5 := (k1.cell (World.block_lt_of_cell? _ _ c5)).trans c5
    have d6 := (k1.cell (World.block_lt_of_cell? _ _ c6)).trans c6
    have d7 := (k1.cell (World.block_lt_of_cell? _ _ c7)).trans c7
    have d8 := (k1.cell (World.block_lt_of_cell? _ _ c8)).trans c8
    have d9 := (k1.cell (World.block_lt_of_cell? _ _ c9)).trans c9
    have d10 := (k1.cell (World.block_lt_of_cell? _ _ c10)).trans c10
    have KB := hide ((unhide HB1).trans (k1.mono (unhide HB1).size))
    clear k1 c0 c1 c2 c3 c4 c5 c6 c7 c8 c9 c10
    go_wp2_with fail
    refine (unhide N2 _).mono ?_
    rintro e y2 ⟨rfl, hy⟩
    have hy' := hy.symm
    subst hy'
    clear hy
    go_wp2_with fail
    refine (unhide N3 _).mono ?_
    rintro e y3 ⟨rfl, hy⟩
    have hy' := hy.symm
    subst hy'
    clear hy
    go_wp2_with fail
    refine (unhide N5 _).mono ?_
    rintro e y5 ⟨rfl, hy⟩
    have hy' := hy.symm
    subst hy'
    clear hy
    go_wp2_with fail
    refine (unhide N6 _).mono ?_
    rintro e y6 ⟨rfl, hy⟩
    have hy' := hy.symm
    subst hy'
    clear hy
    go_wp2
    go_ret
    exact ⟨rfl, unhide KB⟩
  · have hR' : R = se := by rw [decide_eq_false hf] at hR; exact hR
    have tl : ¬ (20 : Int) < (fs.length : Int) := by omega
    clear hR hf
    subst hR'
    go_enter Tryz.func6, Tryz.ntmps6
    go_upto_region 1 with fail
    rw [← unhide HW1]
    go_wp2_with fail
    refine (unhide N0).mono ?_
    rintro e x1 ⟨rfl, k1⟩
    have d0 := (k1.cell (World.block_lt_of_cell? _ _ c0)).trans c0
    have d1 := (k1.cell (World.block_lt_of_cell? _ _ c1)).trans c1
    have d2 := (k1.cell (World.block_lt_of_cell? _ _ c2)).trans c2
    have d3 := (k1.cell (World.block_lt_of_cell? _ _ c3)).trans c3
    have d4 := (k1.cell (World.block_lt_of_cell? _ _ c4)).trans c4
    have d5 := (k1.cell (World.block_lt_of_cell? _ _ c5)).trans c5
    have d6 := (k1.cell (World.block_lt_of_cell? _ _ c6)).trans c6
    have d7 := (k1.cell (World.block_lt_of_cell? _ _ c7)).trans c7
    have d8 := (k1.cell (World.block_lt_of_cell? _ _ c8)).trans c8
    have d9 := (k1.cell (World.block_lt_of_cell? _ _ c9)).trans c9
    have d10 := (k1.cell (World.block_lt_of_cell? _ _ c10)).trans c10
    have KB := hide ((unhide HB1).trans (k1.mono (unhide HB1).size))
    clear k1 c0 c1 c2 c3 c4 c5 c6 c7 c8 c9 c10
    go_wp2_with fail
    refine (unhide N2 _).mono ?_
    rintro e y2 ⟨rfl, hy⟩
    have hy' := hy.symm
    subst hy'
    clear hy
    go_wp2_with fail
    refine (unhide N3 _).mono ?_
    rintro e y3 ⟨rfl, hy⟩
    have hy' := hy.symm
    subst hy'
    clear hy
    go_wp2_with fail
    refine (unhide N5 _).mono ?_
    rintro e y5 ⟨rfl, hy⟩
    have hy' := hy.symm
    subst hy'
    clear hy
    go_wp2_with fail
    refine (unhide N6 _).mono ?_
    rintro e y6 ⟨rfl, hy⟩
    have hy' := hy.symm
    subst hy'
    clear hy
    go_wp2_with fail
    refine (unhide N1 _).mono ?_
    rintro e z1 ⟨⟨u, v, rfl⟩, kz⟩
    have KZ := hide ((unhide KB).trans (kz.mono (unhide KB).size))
    clear kz
    go_wp2
    go_ret
    exact ⟨rfl, unhide KZ⟩
end Go.Proofs.YtajkbkljonejnaaGreatDoor
