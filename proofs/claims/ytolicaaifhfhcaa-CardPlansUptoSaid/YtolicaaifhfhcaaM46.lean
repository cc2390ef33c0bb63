/- What is wrong with a card's plan: CheckPlan. -/
import Derived.Test.YtolicaaifhfhcaaM28
import Derived.Test.YtolicaaifhfhcaaM29
import Derived.Test.YtolicaaifhfhcaaM45
import Derived.Test.YtolicaaifhfhcaaM34
namespace Go.Proofs.Ytolicaaifhfhcaa
open Go.RowKit
set_option linter.unusedVariables false
set_option linter.unusedSimpArgs false
set_option maxRecDepth 100000

/-- what is wrong with a card's plan -/
def planCE (id pin key : ByteArray) (pu on ru tr ve : Int) (sp sq : ByteArray) (fs : List (Int × Int)) : Int :=
  bif digitsB id 8 19 && (digitsB pin 4 12 && (decide (key.size = 16) && !(fieldsE fs == 1))) then (bif inT pu 0 999999999999 && (inT on 0 999999999999 && (inT ru 0 255 && (inT tr 1 15 && inT ve 0 255))) then (bif decide (20 < fs.length) then 2 else secE sp sq) else 3) else 1
set_option maxHeartbeats 4000000 in
theorem checkPlanC_any (id pin key : ByteArray) (pu on ru tr ve : Int) (sp sq : ByteArray) (fs : List (Int × Int)) (ao : Option Addr) (cap : Nat) (w : World) (hi : id.size ≤ maxLen) (hp : pin.size ≤ maxLen) (hr : FRow w ao fs) (hn : FNums fs) (hl : (fs.length : Int) ≤ 9000000000000) :
    Calls Try.prog 6 #[.agg #[.string id, .string pin, .string key, .int .i64 pu, .int .i64 on, .int .i64 ru, .int .i64 tr, .int .i64 ve, .string sp, .string sq, .slice ao fs.length cap]] w fun e w' => e = .returned (.int .i64 (planCE id pin key pu on ru tr ve sp sq fs)) ∧ Below w.heap.size w w' := by
  obtain ⟨W1, hW1⟩ : ∃ W1, W1 = w.alloc (.cells #[.string id, .string pin, .string key, .int .i64 pu, .int .i64 on, .int .i64 ru, .int .i64 tr, .int .i64 ve, .string sp, .string sq, .slice ao fs.length cap] 26) := ⟨_, rfl⟩
  have hB1 : Below w.heap.size w W1 := by rw [hW1]; exact (Below.refl _ _).alloc (Nat.le_refl _) _
  have hX1 : W1.heap[w.heap.size]? = some (.cells #[.string id, .string pin, .string key, .int .i64 pu, .int .i64 on, .int .i64 ru, .int .i64 tr, .int .i64 ve, .string sp, .string sq, .slice ao fs.length cap] 26 (0, 0)) := by rw [hW1]; exact heap_alloc_new _ _
  obtain ⟨R, hR⟩ : ∃ R, R = planCE id pin key pu on ru tr ve sp sq fs := ⟨_, rfl⟩
  rw [← hR]
  unfold planCE at hR
  have c0 : W1.cell? ⟨w.heap.size, 0, none⟩ = some (.string id) := cell_of_row _ _ 0 _ _ _ hX1
  have c1 : W1.cell? ⟨w.heap.size, 1, none⟩ = some (.string pin) := cell_of_row _ _ 1 _ _ _ hX1
  have c2 : W1.cell? ⟨w.heap.size, 2, none⟩ = some (.string key) := cell_of_row _ _ 2 _ _ _ hX1
  have c3 : W1.cell? ⟨w.heap.size, 3, none⟩ = some (.int .i64 pu) := cell_of_row _ _ 3 _ _ _ hX1
  have c4 : W1.cell? ⟨w.heap.size, 4, none⟩ = some (.int .i64 on) := cell_of_row _ _ 4 _ _ _ hX1
  have c5 : W1.cell? ⟨w.heap.size, 5, none⟩ = some (.int .i64 ru) := cell_of_row _ _ 5 _ _ _ hX1
  have c6 : W1.cell? ⟨w.heap.size, 6, none⟩ = some (.int .i64 tr) := cell_of_row _ _ 6 _ _ _ hX1
  have c7 : W1.cell? ⟨w.heap.size, 7, none⟩ = some (.int .i64 ve) := cell_of_row _ _ 7 _ _ _ hX1
  have c8 : W1.cell? ⟨w.heap.size, 8, none⟩ = some (.string sp) := cell_of_row _ _ 8 _ _ _ hX1
  have c9 : W1.cell? ⟨w.heap.size, 9, none⟩ = some (.string sq) := cell_of_row _ _ 9 _ _ _ hX1
  have c10 : W1.cell? ⟨w.heap.size, 10, none⟩ = some (.slice ao fs.length cap) := cell_of_row _ _ 10 _ _ _ hX1
  have n0 := printF_all fs ao cap W1 (hr.below hB1) hn hl
  have n1 := fun w' => modulus_any sp sq w'
  have n2 := fun w' => digits_any id 8 19 hi w'
  have n3 := fun w' => isPin_any pin hp w'
  have n5 := fun w' => tIsAmount_any pu w'
  have n6 := fun w' => tIsAmount_any on w'
  have n7 := fun w' => cwithin_any ru 0 255 w'
  have n8 := fun w' => cwithin_any tr 1 15 w'
  have n9 := fun w' => cwithin_any ve 0 255 w'
  generalize printS fs = ps at *
  generalize secM sp sq = sm at *
  generalize secE sp sq = se at *
  generalize fieldsE fs = fe at *
  generalize digitsB id 8 19 = b1 at *
  generalize digitsB pin 4 12 = b2 at *
  generalize inT pu 0 999999999999 = b5 at *
  generalize inT on 0 999999999999 = b6 at *
  generalize inT ru 0 255 = b7 at *
  generalize inT tr 1 15 = b8 at *
  generalize inT ve 0 255 = b9 at *
  have HB1 := hide hB1; have HW1 := hide hW1
  have N0 := hide n0
  have N1 := hide n1
  have N2 := hide n2
  have N3 := hide n3
  have N5 := hide n5
  have N6 := hide n6
  have N7 := hide n7
  have N8 := hide n8
  have N9 := hide n9
  clear n0 n1 n2 n3 n5 n6 n7 n8 n9 hB1 hW1 hX1 hi hp hr hn hl
  cases b1 with
  | false =>
    obtain rfl : R = 1 := hR
    go_enter Try.func6, Try.ntmps6
    go_upto_region 1 with fail
    rw [← unhide HW1]
    go_wp2_with fail
    refine (unhide N0).mono ?_
    rintro e x1 ⟨rfl, k1⟩
    have d0 := (k1.cell (World.block_lt_of_cell? _ _ c0)).trans c0
    have d1 := (k1.cell (World.block_lt_of_cell? _ _ c1)).trans c1
    have d2 := (k1.cell (World.block_lt_of_cell? _ _ c2)).trans c2
    have d3 := (k1.cell (World.block_lt_of_cell? _ _ c3)).trans c3
    have d4 := (k1.cell (World.block_lt_of_cell? _ _ c4)).trans c4
    have d5 := (k1.cell (World.block_lt_of_cell? _ _ c5)).trans c5
    have d6 := (k1.cell (World.block_lt_of_cell? _ _ c6)).trans c6
    have d7 := (k1.cell (World.block_lt_of_cell? _ _ c7)).trans c7
    have d8 := (k1.cell (World.block_lt_of_cell? _ _ c8)).trans c8
    have d9 := (k1.cell (World.block_lt_of_cell? _ _ c9)).trans c9
    have d10 := (k1.cell (World.block_lt_of_cell? _ _ c10)).trans c10
    have KB := hide (And.intro (unhide HB1) k1)
    clear k1
    go_wp2_with fail
    refine (unhide N1 _).mono ?_
    rintro e x2 ⟨rfl, k2⟩
    have f0 := (k2.cell (World.block_lt_of_cell? _ _ d0)).trans d0
    have f1 := (k2.cell (World.block_lt_of_cell? _ _ d1)).trans d1
    have f2 := (k2.cell (World.block_lt_of_cell? _ _ d2)).trans d2
    have f3 := (k2.cell (World.block_lt_of_cell? _ _ d3)).trans d3
    have f4 := (k2.cell (World.block_lt_of_cell? _ _ d4)).trans d4
    have f5 := (k2.cell (World.block_lt_of_cell? _ _ d5)).trans d5
    have f6 := (k2.cell (World.block_lt_of_cell? _ _ d6)).trans d6
    have f7 := (k2.cell (World.block_lt_of_cell? _ _ d7)).trans d7
    have f8 := (k2.cell (World.block_lt_of_cell? _ _ d8)).trans d8
    have f9 := (k2.cell (World.block_lt_of_cell? _ _ d9)).trans d9
    have f10 := (k2.cell (World.block_lt_of_cell? _ _ d10)).trans d10
    have KC := hide (And.intro (unhide KB) k2)
    clear k2 d0 d1 d2 d3 d4 d5 d6 d7 d8 d9 d10 c0 c1 c2 c3 c4 c5 c6 c7 c8 c9 c10 KB
    go_wp2_with fail
    refine (unhide N2 _).mono ?_
    rintro e y2 ⟨rfl, hy⟩
    have hy' := hy.symm
    subst hy'
    clear hy
    go_wp2
    go_ret
    exact ⟨rfl, ((unhide KC).1.1.trans ((unhide KC).1.2.mono (unhide KC).1.1.size)).trans ((unhide KC).2.mono ((unhide KC).1.1.trans ((unhide KC).1.2.mono (unhide KC).1.1.size)).size)⟩
  | true =>
  cases b2 with
  | false =>
    obtain rfl : R = 1 := hR
    go_enter Try.func6, Try.ntmps6
    go_upto_region 1 with fail
    rw [← unhide HW1]
    go_wp2_with fail
    refine (unhide N0).mono ?_
    rintro e x1 ⟨rfl, k1⟩
    have d0 := (k1.cell (World.block_lt_of_cell? _ _ c0)).trans c0
    have d1 := (k1.cell (World.block_lt_of_cell? _ _ c1)).trans c1
    have d2 := (k1.cell (World.block_lt_of_cell? _ _ c2)).trans c2
    have d3 := (k1.cell (World.block_lt_of_cell? _ _ c3)).trans c3
    have d4 := (k1.cell (World.block_lt_of_cell? _ _ c4)).trans c4
    have d5 := (k1.cell (World.block_lt_of_cell? _ _ c5)).trans c5
    have d6 := (k1.cell (World.block_lt_of_cell? _ _ c6)).trans c6
    have d7 := (k1.cell (World.block_lt_of_cell? _ _ c7)).trans c7
    have d8 := (k1.cell (World.block_lt_of_cell? _ _ c8)).trans c8
    have d9 := (k1.cell (World.block_lt_of_cell? _ _ c9)).trans c9
    have d10 := (k1.cell (World.block_lt_of_cell? _ _ c10)).trans c10
    have KB := hide (And.intro (unhide HB1) k1)
    clear k1
    go_wp2_with fail
    refine (unhide N1 _).mono ?_
    rintro e x2 ⟨rfl, k2⟩
    have f0 := (k2.cell (World.block_lt_of_cell? _ _ d0)).trans d0
    have f1 := (k2.cell (World.block_lt_of_cell? _ _ d1)).trans d1
    have f2 := (k2.cell (World.block_lt_of_cell? _ _ d2)).trans d2
    have f3 := (k2.cell (World.block_lt_of_cell? _ _ d3)).trans d3
    have f4 := (k2.cell (World.block_lt_of_cell? _ _ d4)).trans d4
    have f5 := (k2.cell (World.block_lt_of_cell? _ _ d5)).trans d5
    have f6 := (k2.cell (World.block_lt_of_cell? _ _ d6)).trans d6
    have f7 := (k2.cell (World.block_lt_of_cell? _ _ d7)).trans d7
    have f8 := (k2.cell (World.block_lt_of_cell? _ _ d8)).trans d8
    have f9 := (k2.cell (World.block_lt_of_cell? _ _ d9)).trans d9
    have f10 := (k2.cell (World.block_lt_of_cell? _ _ d10)).trans d10
    have KC := hide (And.intro (unhide KB) k2)
    clear k2 d0 d1 d2 d3 d4 d5 d6 d7 d8 d9 d10 c0 c1 c2 c3 c4 c5 c6 c7 c8 c9 c10 KB
    go_wp2_with fail
    refine (unhide N2 _).mono ?_
    rintro e y2 ⟨rfl, hy⟩
    have hy' := hy.symm
    subst hy'
    clear hy
    go_wp2_with fail
    refine (unhide N3 _).mono ?_
    rintro e y3 ⟨rfl, hy⟩
    have hy' := hy.symm
    subst hy'
    clear hy
    go_wp2
    go_ret
    exact ⟨rfl, ((unhide KC).1.1.trans ((unhide KC).1.2.mono (unhide KC).1.1.size)).trans ((unhide KC).2.mono ((unhide KC).1.1.trans ((unhide KC).1.2.mono (unhide KC).1.1.size)).size)⟩
  | true =>
  by_cases hk : key.size = 16
  case neg =>
    have hR' : R = 1 := by rw [decide_eq_false hk] at hR; exact hR
    have tk : ((key.size : Int) != 16) = true := by rw [bne_iff_ne]; omega
    clear hR
    subst hR'
    go_enter Try.func6, Try.ntmps6
    go_upto_region 1 with fail
    rw [← unhide HW1]
    go_wp2_with fail
    refine (unhide N0).mono ?_
    rintro e x1 ⟨rfl, k1⟩
    have d0 := (k1.cell (World.block_lt_of_cell? _ _ c0)).trans c0
    have d1 := (k1.cell (World.block_lt_of_cell? _ _ c1)).trans c1
    have d2 := (k1.cell (World.block_lt_of_cell? _ _ c2)).trans c2
    have d3 := (k1.cell (World.block_lt_of_cell? _ _ c3)).trans c3
    have d4 := (k1.cell (World.block_lt_of_cell? _ _ c4)).trans c4
    have d5 := (k1.cell (World.block_lt_of_cell? _ _ c5)).trans c5
    have d6 := (k1.cell (World.block_lt_of_cell? _ _ c6)).trans c6
    have d7 := (k1.cell (World.block_lt_of_cell? _ _ c7)).trans c7
    have d8 := (k1.cell (World.block_lt_of_cell? _ _ c8)).trans c8
    have d9 := (k1.cell (World.block_lt_of_cell? _ _ c9)).trans c9
    have d10 := (k1.cell (World.block_lt_of_cell? _ _ c10)).trans c10
    have KB := hide (And.intro (unhide HB1) k1)
    clear k1
    go_wp2_with fail
    refine (unhide N1 _).mono ?_
    rintro e x2 ⟨rfl, k2⟩
    have f0 := (k2.cell (World.block_lt_of_cell? _ _ d0)).trans d0
    have f1 := (k2.cell (World.block_lt_of_cell? _ _ d1)).trans d1
    have f2 := (k2.cell (World.block_lt_of_cell? _ _ d2)).trans d2
    have f3 := (k2.cell (World.block_lt_of_cell? _ _ d3)).trans d3
    have f4 := (k2.cell (World.block_lt_of_cell? _ _ d4)).trans d4
    have f5 := (k2.cell (World.block_lt_of_cell? _ _ d5)).trans d5
    have f6 := (k2.cell (World.block_lt_of_cell? _ _ d6)).trans d6
    have f7 := (k2.cell (World.block_lt_of_cell? _ _ d7)).trans d7
    have f8 := (k2.cell (World.block_lt_of_cell? _ _ d8)).trans d8
    have f9 := (k2.cell (World.block_lt_of_cell? _ _ d9)).trans d9
    have f10 := (k2.cell (World.block_lt_of_cell? _ _ d10)).trans d10
    have KC := hide (And.intro (unhide KB) k2)
    clear k2 d0 d1 d2 d3 d4 d5 d6 d7 d8 d9 d10 c0 c1 c2 c3 c4 c5 c6 c7 c8 c9 c10 KB
    go_wp2_with fail
    refine (unhide N2 _).mono ?_
    rintro e y2 ⟨rfl, hy⟩
    have hy' := hy.symm
    subst hy'
    clear hy
    go_wp2_with fail
    refine (unhide N3 _).mono ?_
    rintro e y3 ⟨rfl, hy⟩
    have hy' := hy.symm
    subst hy'
    clear hy
    go_wp2
    go_ret
    exact ⟨rfl, ((unhide KC).1.1.trans ((unhide KC).1.2.mono (unhide KC).1.1.size)).trans ((unhide KC).2.mono ((unhide KC).1.1.trans ((unhide KC).1.2.mono (unhide KC).1.1.size)).size)⟩
  have tk : ((key.size : Int) != 16) = false := by rw [bne_eq_false_iff_eq]; omega
  rw [decide_eq_true hk] at hR
  clear hk
  cases te : (fe == 1) with
  | true =>
    have hR' : R = 1 := by rw [te] at hR; exact hR
    clear hR
    subst hR'
    go_enter Try.func6, Try.ntmps6
    go_upto_region 1 with fail
    rw [← unhide HW1]
    go_wp2_with fail
    refine (unhide N0).mono ?_
    rintro e x1 ⟨rfl, k1⟩
    have d0 := (k1.cell (World.block_lt_of_cell? _ _ c0)).trans c0
    have d1 := (k1.cell (World.block_lt_of_cell? _ _ c1)).trans c1
    have d2 := (k1.cell (World.block_lt_of_cell? _ _ c2)).trans c2
    have d3 := (k1.cell (World.block_lt_of_cell? _ _ c3)).trans c3
    have d4 := (k1.cell (World.block_lt_of_cell? _ _ c4)).trans c4
    have d5 := (k1.cell (World.block_lt_of_cell? _ _ c5)).trans c5
    have d6 := (k1.cell (World.block_lt_of_cell? _ _ c6)).trans c6
    have d7 := (k1.cell (World.block_lt_of_cell? _ _ c7)).trans c7
    have d8 := (k1.cell (World.block_lt_of_cell? _ _ c8)).trans c8
    have d9 := (k1.cell (World.block_lt_of_cell? _ _ c9)).trans c9
    have d10 := (k1.cell (World.block_lt_of_cell? _ _ c10)).trans c10
    have KB := hide (And.intro (unhide HB1) k1)
    clear k1
    go_wp2_with fail
    refine (unhide N1 _).mono ?_
    rintro e x2 ⟨rfl, k2⟩
    have f0 := (k2.cell (World.block_lt_of_cell? _ _ d0)).trans d0
    have f1 := (k2.cell (World.block_lt_of_cell? _ _ d1)).trans d1
    have f2 := (k2.cell (World.block_lt_of_cell? _ _ d2)).trans d2
    have f3 := (k2.cell (World.block_lt_of_cell? _ _ d3)).trans d3
    have f4 := (k2.cell (World.block_lt_of_cell? _ _ d4)).trans d4
    have f5 := (k2.cell (World.block_lt_of_cell? _ _ d5)).trans d5
    have f6 := (k2.cell (World.block_lt_of_cell? _ _ d6)).trans d6
    have f7 := (k2.cell (World.block_lt_of_cell? _ _ d7)).trans d7
    have f8 := (k2.cell (World.block_lt_of_cell? _ _ d8)).trans d8
    have f9 := (k2.cell (World.block_lt_of_cell? _ _ d9)).trans d9
    have f10 := (k2.cell (World.block_lt_of_cell? _ _ d10)).trans d10
    have KC := hide (And.intro (unhide KB) k2)
    clear k2 d0 d1 d2 d3 d4 d5 d6 d7 d8 d9 d10 c0 c1 c2 c3 c4 c5 c6 c7 c8 c9 c10 KB
    go_wp2_with fail
    refine (unhide N2 _).mono ?_
    rintro e y2 ⟨rfl, hy⟩
    have hy' := hy.symm
    subst hy'
    clear hy
    go_wp2_with fail
    refine (unhide N3 _).mono ?_
    rintro e y3 ⟨rfl, hy⟩
    have hy' := hy.symm
    subst hy'
    clear hy
    go_wp2
    go_ret
    exact ⟨rfl, ((unhide KC).1.1.trans ((unhide KC).1.2.mono (unhide KC).1.1.size)).trans ((unhide KC).2.mono ((unhide KC).1.1.trans ((unhide KC).1.2.mono (unhide KC).1.1.size)).size)⟩
  | false =>
  rw [te] at hR
  cases b5 with
  | false =>
    obtain rfl : R = 3 := hR
    go_enter Try.func6, Try.ntmps6
    go_upto_region 1 with fail
    rw [← unhide HW1]
    go_wp2_with fail
    refine (unhide N0).mono ?_
    rintro e x1 ⟨rfl, k1⟩
    have d0 := (k1.cell (World.block_lt_of_cell? _ _ c0)).trans c0
    have d1 := (k1.cell (World.block_lt_of_cell? _ _ c1)).trans c1
    have d2 := (k1.cell (World.block_lt_of_cell? _ _ c2)).trans c2
    have d3 := (k1.cell (World.block_lt_of_cell? _ _ c3)).trans c3
    have d4 := (k1.cell (World.block_lt_of_cell? _ _ c4)).trans c4
    have d5 := (k1.cell (World.block_lt_of_cell? _ _ c5)).trans c5
    have d6 := (k1.cell (World.block_lt_of_cell? _ _ c6)).trans c6
    have d7 := (k1.cell (World.block_lt_of_cell? _ _ c7)).trans c7
    have d8 := (k1.cell (World.block_lt_of_cell? _ _ c8)).trans c8
    have d9 := (k1.cell (World.block_lt_of_cell? _ _ c9)).trans c9
    have d10 := (k1.cell (World.block_lt_of_cell? _ _ c10)).trans c10
    have KB := hide (And.intro (unhide HB1) k1)
    clear k1
    go_wp2_with fail
    refine (unhide N1 _).mono ?_
    rintro e x2 ⟨rfl, k2⟩
    have f0 := (k2.cell (World.block_lt_of_cell? _ _ d0)).trans d0
    have f1 := (k2.cell (World.block_lt_of_cell? _ _ d1)).trans d1
    have f2 := (k2.cell (World.block_lt_of_cell? _ _ d2)).trans d2
    have f3 := (k2.cell (World.block_lt_of_cell? _ _ d3)).trans d3
    have f4 := (k2.cell (World.block_lt_of_cell? _ _ d4)).trans d4
    have f5 := (k2.cell (World.block_lt_of_cell? _ _ d5)).trans d5
    have f6 := (k2.cell (World.block_lt_of_cell? _ _ d6)).trans d6
    have f7 := (k2.cell (World.block_lt_of_cell? _ _ d7)).trans d7
    have f8 := (k2.cell (World.block_lt_of_cell? _ _ d8)).trans d8
    have f9 := (k2.cell (World.block_lt_of_cell? _ _ d9)).trans d9
    have f10 := (k2.cell (World.block_lt_of_cell? _ _ d10)).trans d10
    have KC := hide (And.intro (unhide KB) k2)
    clear k2 d0 d1 d2 d3 d4 d5 d6 d7 d8 d9 d10 c0 c1 c2 c3 c4 c5 c6 c7 c8 c9 c10 KB
    go_wp2_with fail
    refine (unhide N2 _).mono ?_
    rintro e y2 ⟨rfl, hy⟩
    have hy' := hy.symm
    subst hy'
    clear hy
    go_wp2_with fail
    refine (unhide N3 _).mono ?_
    rintro e y3 ⟨rfl, hy⟩
    have hy' := hy.symm
    subst hy'
    clear hy
    go_wp2_with fail
    refine (unhide N5 _).mono ?_
    rintro e y5 ⟨rfl, hy⟩
    have hy' := hy.symm
    subst hy'
    clear hy
    go_wp2
    go_ret
    exact ⟨rfl, ((unhide KC).1.1.trans ((unhide KC).1.2.mono (unhide KC).1.1.size)).trans ((unhide KC).2.mono ((unhide KC).1.1.trans ((unhide KC).1.2.mono (unhide KC).1.1.size)).size)⟩
  | true =>
  cases b6 with
  | false =>
    obtain rfl : R = 3 := hR
    go_enter Try.func6, Try.ntmps6
    go_upto_region 1 with fail
    rw [← unhide HW1]
    go_wp2_with fail
    refine (unhide N0).mono ?_
    rintro e x1 ⟨rfl, k1⟩
    have d0 := (k1.cell (World.block_lt_of_cell? _ _ c0)).trans c0
    have d1 := (k1.cell (World.block_lt_of_cell? _ _ c1)).trans c1
    have d2 := (k1.cell (World.block_lt_of_cell? _ _ c2)).trans c2
    have d3 := (k1.cell (World.block_lt_of_cell? _ _ c3)).trans c3
    have d4 := (k1.cell (World.block_lt_of_cell? _ _ c4)).trans c4
    have d5 := (k1.cell (World.block_lt_of_cell? _ _ c5)).trans c5
    have d6 := (k1.cell (World.block_lt_of_cell? _ _ c6)).trans c6
    have d7 := (k1.cell (World.block_lt_of_cell? _ _ c7)).trans c7
    have d8 := (k1.cell (World.block_lt_of_cell? _ _ c8)).trans c8
    have d9 := (k1.cell (World.block_lt_of_cell? _ _ c9)).trans c9
    have d10 := (k1.cell (World.block_lt_of_cell? _ _ c10)).trans c10
    have KB := hide (And.intro (unhide HB1) k1)
    clear k1
    go_wp2_with fail
    refine (unhide N1 _).mono ?_
    rintro e x2 ⟨rfl, k2⟩
    have f0 := (k2.cell (World.block_lt_of_cell? _ _ d0)).trans d0
    have f1 := (k2.cell (World.block_lt_of_cell? _ _ d1)).trans d1
    have f2 := (k2.cell (World.block_lt_of_cell? _ _ d2)).trans d2
    have f3 := (k2.cell (World.block_lt_of_cell? _ _ d3)).trans d3
    have f4 := (k2.cell (World.block_lt_of_cell? _ _ d4)).trans d4
    have f5 := (k2.cell (World.block_lt_of_cell? _ _ d5)).trans d5
    have f6 := (k2.cell (World.block_lt_of_cell? _ _ d6)).trans d6
    have f7 := (k2.cell (World.block_lt_of_cell? _ _ d7)).trans d7
    have f8 := (k2.cell (World.block_lt_of_cell? _ _ d8)).trans d8
    have f9 := (k2.cell (World.block_lt_of_cell? _ _ d9)).trans d9
    have f10 := (k2.cell (World.block_lt_of_cell? _ _ d10)).trans d10
    have KC := hide (And.intro (unhide KB) k2)
    clear k2 d0 d1 d2 d3 d4 d5 d6 d7 d8 d9 d10 c0 c1 c2 c3 c4 c5 c6 c7 c8 c9 c10 KB
    go_wp2_with fail
    refine (unhide N2 _).mono ?_
    rintro e y2 ⟨rfl, hy⟩
    have hy' := hy.symm
    subst hy'
    clear hy
    go_wp2_with fail
    refine (unhide N3 _).mono ?_
    rintro e y3 ⟨rfl, hy⟩
    have hy' := hy.symm
    subst hy'
    clear hy
    go_wp2_with fail
    refine (unhide N5 _).mono ?_
    rintro e y5 ⟨rfl, hy⟩
    have hy' := hy.symm
    subst hy'
    clear hy
    go_wp2_with fail
    refine (unhide N6 _).mono ?_
    rintro e y6 ⟨rfl, hy⟩
    have hy' := hy.symm
    subst hy'
    clear hy
    go_wp2
    go_ret
    exact ⟨rfl, ((unhide KC).1.1.trans ((unhide KC).1.2.mono (unhide KC).1.1.size)).trans ((unhide KC).2.mono ((unhide KC).1.1.trans ((unhide KC).1.2.mono (unhide KC).1.1.size)).size)⟩
  | true =>
  cases b7 with
  | false =>
    obtain rfl : R = 3 := hR
    go_enter Try.func6, Try.ntmps6
    go_upto_region 1 with fail
    rw [← unhide HW1]
    go_wp2_with fail
    refine (unhide N0).mono ?_
    rintro e x1 ⟨rfl, k1⟩
    have d0 := (k1.cell (World.block_lt_of_cell? _ _ c0)).trans c0
    have d1 := (k1.cell (World.block_lt_of_cell? _ _ c1)).trans c1
    have d2 := (k1.cell (World.block_lt_of_cell? _ _ c2)).trans c2
    have d3 := (k1.cell (World.block_lt_of_cell? _ _ c3)).trans c3
    have d4 := (k1.cell (World.block_lt_of_cell? _ _ c4)).trans c4
    have d5 := (k1.cell (World.block_lt_of_cell? _ _ c5)).trans c5
    have d6 := (k1.cell (World.block_lt_of_cell? _ _ c6)).trans c6
    have d7 := (k1.cell (World.block_lt_of_cell? _ _ c7)).trans c7
    have d8 := (k1.cell (World.block_lt_of_cell? _ _ c8)).trans c8
    have d9 := (k1.cell (World.block_lt_of_cell? _ _ c9)).trans c9
    have d10 := (k1.cell (World.block_lt_of_cell? _ _ c10)).trans c10
    have KB := hide (And.intro (unhide HB1) k1)
    clear k1
    go_wp2_with fail
    refine (unhide N1 _).mono ?_
    rintro e x2 ⟨rfl, k2⟩
    have f0 := (k2.cell (World.block_lt_of_cell? _ _ d0)).trans d0
    have f1 := (k2.cell (World.block_lt_of_cell? _ _ d1)).trans d1
    have f2 := (k2.cell (World.block_lt_of_cell? _ _ d2)).trans d2
    have f3 := (k2.cell (World.block_lt_of_cell? _ _ d3)).trans d3
    have f4 := (k2.cell (World.block_lt_of_cell? _ _ d4)).trans d4
    have f5 := (k2.cell (World.block_lt_of_cell? _ _ d5)).trans d5
    have f6 := (k2.cell (World.block_lt_of_cell? _ _ d6)).trans d6
    have f7 := (k2.cell (World.block_lt_of_cell? _ _ d7)).trans d7
    have f8 := (k2.cell (World.block_lt_of_cell? _ _ d8)).trans d8
    have f9 := (k2.cell (World.block_lt_of_cell? _ _ d9)).trans d9
    have f10 := (k2.cell (World.block_lt_of_cell? _ _ d10)).trans d10
    have KC := hide (And.intro (unhide KB) k2)
    clear k2 d0 d1 d2 d3 d4 d5 d6 d7 d8 d9 d10 c0 c1 c2 c3 c4 c5 c6 c7 c8 c9 c10 KB
    go_wp2_with fail
    refine (unhide N2 _).mono ?_
    rintro e y2 ⟨rfl, hy⟩
    have hy' := hy.symm
    subst hy'
    clear hy
    go_wp2_with fail
    refine (unhide N3 _).mono ?_
    rintro e y3 ⟨rfl, hy⟩
    have hy' := hy.symm
    subst hy'
    clear hy
    go_wp2_with fail
    refine (unhide N5 _).mono ?_
    rintro e y5 ⟨rfl, hy⟩
    have hy' := hy.symm
    subst hy'
    clear hy
    go_wp2_with fail
    refine (unhide N6 _).mono ?_
    rintro e y6 ⟨rfl, hy⟩
    have hy' := hy.symm
    subst hy'
    clear hy
    go_wp2_with fail
    refine (unhide N7 _).mono ?_
    rintro e y7 ⟨rfl, hy⟩
    have hy' := hy.symm
    subst hy'
    clear hy
    go_wp2
    go_ret
    exact ⟨rfl, ((unhide KC).1.1.trans ((unhide KC).1.2.mono (unhide KC).1.1.size)).trans ((unhide KC).2.mono ((unhide KC).1.1.trans ((unhide KC).1.2.mono (unhide KC).1.1.size)).size)⟩
  | true =>
  cases b8 with
  | false =>
    obtain rfl : R = 3 := hR
    go_enter Try.func6, Try.ntmps6
    go_upto_region 1 with fail
    rw [← unhide HW1]
    go_wp2_with fail
    refine (unhide N0).mono ?_
    rintro e x1 ⟨rfl, k1⟩
    have d0 := (k1.cell (World.block_lt_of_cell? _ _ c0)).trans c0
    have d1 := (k1.cell (World.block_lt_of_cell? _ _ c1)).trans c1
    have d2 := (k1.cell (World.block_lt_of_cell? _ _ c2)).trans c2
    have d3 := (k1.cell (World.block_lt_of_cell? _ _ c3)).trans c3
    have d4 := (k1.cell (World.block_lt_of_cell? _ _ c4)).trans c4
    have d5 := (k1.cell (World.block_lt_of_cell? _ _ c5)).trans c5
    have d6 := (k1.cell (World.block_lt_of_cell? _ _ c6)).trans c6
    have d7 := (k1.cell (World.block_lt_of_cell? _ _ c7)).trans c7
    have d8 := (k1.cell (World.block_lt_of_cell? _ _ c8)).trans c8
    have d9 := (k1.cell (World.block_lt_of_cell? _ _ c9)).trans c9
    have d10 := (k1.cell (World.block_lt_of_cell? _ _ c10)).trans c10
    have KB := hide (And.intro (unhide HB1) k1)
    clear k1
    go_wp2_with fail
    refine (unhide N1 _).mono ?_
    rintro e x2 ⟨rfl, k2⟩
    have f0 := (k2.cell (World.block_lt_of_cell? _ _ d0)).trans d0
    have f1 := (k2.cell (World.block_lt_of_cell? _ _ d1)).trans d1
    have f2 := (k2.cell (World.block_lt_of_cell? _ _ d2)).trans d2
    have f3 := (k2.cell (World.block_lt_of_cell? _ _ d3)).trans d3
    have f4 := (k2.cell (World.block_lt_of_cell? _ _ d4)).trans d4
    have f5 := (k2.cell (World.block_lt_of_cell? _ _ d5)).trans d5
    have f6 := (k2.cell (World.block_lt_of_cell? _ _ d6)).trans d6
    have f7 := (k2.cell (World.block_lt_of_cell? _ _ d7)).trans d7
    have f8 := (k2.cell (World.block_lt_of_cell? _ _ d8)).trans d8
    have f9 := (k2.cell (World.block_lt_of_cell? _ _ d9)).trans d9
    have f10 := (k2.cell (World.block_lt_of_cell? _ _ d10)).trans d10
    have KC := hide (And.intro (unhide KB) k2)
    clear k2 d0 d1 d2 d3 d4 d5 d6 d7 d8 d9 d10 c0 c1 c2 c3 c4 c5 c6 c7 c8 c9 c10 KB
    go_wp2_with fail
    refine (unhide N2 _).mono ?_
    rintro e y2 ⟨rfl, hy⟩
    have hy' := hy.symm
    subst hy'
    clear hy
    go_wp2_with fail
    refine (unhide N3 _).mono ?_
    rintro e y3 ⟨rfl, hy⟩
    have hy' := hy.symm
    subst hy'
    clear hy
    go_wp2_with fail
    refine (unhide N5 _).mono ?_
    rintro e y5 ⟨rfl, hy⟩
    have hy' := hy.symm
    subst hy'
    clear hy
    go_wp2_with fail
    refine (unhide N6 _).mono ?_
    rintro e y6 ⟨rfl, hy⟩
    have hy' := hy.symm
    subst hy'
    clear hy
    go_wp2_with fail
    refine (unhide N7 _).mono ?_
    rintro e y7 ⟨rfl, hy⟩
    have hy' := hy.symm
    subst hy'
    clear hy
    go_wp2_with fail
    refine (unhide N8 _).mono ?_
    rintro e y8 ⟨rfl, hy⟩
    have hy' := hy.symm
    subst hy'
    clear hy
    go_wp2
    go_ret
    exact ⟨rfl, ((unhide KC).1.1.trans ((unhide KC).1.2.mono (unhide KC).1.1.size)).trans ((unhide KC).2.mono ((unhide KC).1.1.trans ((unhide KC).1.2.mono (unhide KC).1.1.size)).size)⟩
  | true =>
  cases b9 with
  | false =>
    obtain rfl : R = 3 := hR
    go_enter Try.func6, Try.ntmps6
    go_upto_region 1 with fail
    rw [← unhide HW1]
    go_wp2_with fail
    refine (unhide N0).mono ?_
    rintro e x1 ⟨rfl, k1⟩
    have d0 := (k1.cell (World.block_lt_of_cell? _ _ c0)).trans c0
    have d1 := (k1.cell (World.block_lt_of_cell? _ _ c1)).trans c1
    have d2 := (k1.cell (World.block_lt_of_cell? _ _ c2)).trans c2
    have d3 := (k1.cell (World.block_lt_of_cell? _ _ c3)).trans c3
    have d4 := (k1.cell (World.block_lt_of_cell? _ _ c4)).trans c4
    have d5 := (k1.cell (World.block_lt_of_cell? _ _ c5)).trans c5
    have d6 := (k1.cell (World.block_lt_of_cell? _ _ c6)).trans c6
    have d7 := (k1.cell (World.block_lt_of_cell? _ _ c7)).trans c7
    have d8 := (k1.cell (World.block_lt_of_cell? _ _ c8)).trans c8
    have d9 := (k1.cell (World.block_lt_of_cell? _ _ c9)).trans c9
    have d10 := (k1.cell (World.block_lt_of_cell? _ _ c10)).trans c10
    have KB := hide (And.intro (unhide HB1) k1)
    clear k1
    go_wp2_with fail
    refine (unhide N1 _).mono ?_
    rintro e x2 ⟨rfl, k2⟩
    have f0 := (k2.cell (World.block_lt_of_cell? _ _ d0)).trans d0
    have f1 := (k2.cell (World.block_lt_of_cell? _ _ d1)).trans d1
    have f2 := (k2.cell (World.block_lt_of_cell? _ _ d2)).trans d2
    have f3 := (k2.cell (World.block_lt_of_cell? _ _ d3)).trans d3
    have f4 := (k2.cell (World.block_lt_of_cell? _ _ d4)).trans d4
    have f5 := (k2.cell (World.block_lt_of_cell? _ _ d5)).trans d5
    have f6 := (k2.cell (World.block_lt_of_cell? _ _ d6)).trans d6
    have f7 := (k2.cell (World.block_lt_of_cell? _ _ d7)).trans d7
    have f8 := (k2.cell (World.block_lt_of_cell? _ _ d8)).trans d8
    have f9 := (k2.cell (World.block_lt_of_cell? _ _ d9)).trans d9
    have f10 := (k2.cell (World.block_lt_of_cell? _ _ d10)).trans d10
    have KC := hide (And.intro (unhide KB) k2)
    clear k2 d0 d1 d2 d3 d4 d5 d6 d7 d8 d9 d10 c0 c1 c2 c3 c4 c5 c6 c7 c8 c9 c10 KB
    go_wp2_with fail
    refine (unhide N2 _).mono ?_
    rintro e y2 ⟨rfl, hy⟩
    have hy' := hy.symm
    subst hy'
    clear hy
    go_wp2_with fail
    refine (unhide N3 _).mono ?_
    rintro e y3 ⟨rfl, hy⟩
    have hy' := hy.symm
    subst hy'
    clear hy
    go_wp2_with fail
    refine (unhide N5 _).mono ?_
    rintro e y5 ⟨rfl, hy⟩
    have hy' := hy.symm
    subst hy'
    clear hy
    go_wp2_with fail
    refine (unhide N6 _).mono ?_
    rintro e y6 ⟨rfl, hy⟩
    have hy' := hy.symm
    subst hy'
    clear hy
    go_wp2_with fail
    refine (unhide N7 _).mono ?_
    rintro e y7 ⟨rfl, hy⟩
    have hy' := hy.symm
    subst hy'
    clear hy
    go_wp2_with fail
    refine (unhide N8 _).mono ?_
    rintro e y8 ⟨rfl, hy⟩
    have hy' := hy.symm
    subst hy'
    clear hy
    go_wp2_with fail
    refine (unhide N9 _).mono ?_
    rintro e y9 ⟨rfl, hy⟩
    have hy' := hy.symm
    subst hy'
    clear hy
    go_wp2
    go_ret
    exact ⟨rfl, ((unhide KC).1.1.trans ((unhide KC).1.2.mono (unhide KC).1.1.size)).trans ((unhide KC).2.mono ((unhide KC).1.1.trans ((unhide KC).1.2.mono (unhide KC).1.1.size)).size)⟩
  | true =>
  by_cases hf : 20 < fs.length
  · have hR' : R = 2 := by rw [decide_eq_true hf] at hR; exact hR
    have tl : (20 : Int) < (fs.length : Int) := by omega
    clear hR hf
    subst hR'
    go_enter Try.func6, Try.ntmps6
    go_upto_region 1 with fail
    rw [← unhide HW1]
    go_wp2_with fail
    refine (unhide N0).mono ?_
    rintro e x1 ⟨rfl, k1⟩
    have d0 := (k1.cell (World.block_lt_of_cell? _ _ c0)).trans c0
    have d1 := (k1.cell (World.block_lt_of_cell? _ _ c1)).trans c1
    have d2 := (k1.cell (World.block_lt_of_cell? _ _ c2)).trans c2
    have d3 := (k1.cell (World.block_lt_of_cell? _ _ c3)).trans c3
    have d4 := (k1.cell (World.block_lt_of_cell? _ _ c4)).trans c4
    have d5 := (k1.cell (World.block_lt_of_cell? _ _ c5)).trans c5
    have d6 := (k1.cell (World.block_lt_of_cell? _ _ c6)).trans c6
    have d7 := (k1.cell (World.block_lt_of_cell? _ _ c7)).trans c7
    have d8 := (k1.cell (World.block_lt_of_cell? _ _ c8)).trans c8
    have d9 := (k1.cell (World.block_lt_of_cell? _ _ c9)).trans c9
    have d10 := (k1.cell (World.block_lt_of_cell? _ _ c10)).trans c10
    have KB := hide (And.intro (unhide HB1) k1)
    clear k1
    go_wp2_with fail
    refine (unhide N1 _).mono ?_
    rintro e x2 ⟨rfl, k2⟩
    have f0 := (k2.cell (World.block_lt_of_cell? _ _ d0)).trans d0
    have f1 := (k2.cell (World.block_lt_of_cell? _ _ d1)).trans d1
    have f2 := (k2.cell (World.block_lt_of_cell? _ _ d2)).trans d2
    have f3 := (k2.cell (World.block_lt_of_cell? _ _ d3)).trans d3
    have f4 := (k2.cell (World.block_lt_of_cell? _ _ d4)).trans d4
    have f5 := (k2.cell (World.block_lt_of_cell? _ _ d5)).trans d5
    have f6 := (k2.cell (World.block_lt_of_cell? _ _ d6)).trans d6
    have f7 := (k2.cell (World.block_lt_of_cell? _ _ d7)).trans d7
    have f8 := (k2.cell (World.block_lt_of_cell? _ _ d8)).trans d8
    have f9 := (k2.cell (World.block_lt_of_cell? _ _ d9)).trans d9
    have f10 := (k2.cell (World.block_lt_of_cell? _ _ d10)).trans d10
    have KC := hide (And.intro (unhide KB) k2)
    clear k2 d0 d1 d2 d3 d4 d5 d6 d7 d8 d9 d10 c0 c1 c2 c3 c4 c5 c6 c7 c8 c9 c10 KB
    go_wp2_with fail
    refine (unhide N2 _).mono ?_
    rintro e y2 ⟨rfl, hy⟩
    have hy' := hy.symm
    subst hy'
    clear hy
    go_wp2_with fail
    refine (unhide N3 _).mono ?_
    rintro e y3 ⟨rfl, hy⟩
    have hy' := hy.symm
    subst hy'
    clear hy
    go_wp2_with fail
    refine (unhide N5 _).mono ?_
    rintro e y5 ⟨rfl, hy⟩
    have hy' := hy.symm
    subst hy'
    clear hy
    go_wp2_with fail
    refine (unhide N6 _).mono ?_
    rintro e y6 ⟨rfl, hy⟩
    have hy' := hy.symm
    subst hy'
    clear hy
    go_wp2_with fail
    refine (unhide N7 _).mono ?_
    rintro e y7 ⟨rfl, hy⟩
    have hy' := hy.symm
    subst hy'
    clear hy
    go_wp2_with fail
    refine (unhide N8 _).mono ?_
    rintro e y8 ⟨rfl, hy⟩
    have hy' := hy.symm
    subst hy'
    clear hy
    go_wp2_with fail
    refine (unhide N9 _).mono ?_
    rintro e y9 ⟨rfl, hy⟩
    have hy' := hy.symm
    subst hy'
    clear hy
    go_wp2
    go_ret
    exact ⟨rfl, ((unhide KC).1.1.trans ((unhide KC).1.2.mono (unhide KC).1.1.size)).trans ((unhide KC).2.mono ((unhide KC).1.1.trans ((unhide KC).1.2.mono (unhide KC).1.1.size)).size)⟩
  · have hR' : R = se := by rw [decide_eq_false hf] at hR; exact hR
    have tl : ¬ (20 : Int) < (fs.length : Int) := by omega
    clear hR hf
    subst hR'
    go_enter Try.func6, Try.ntmps6
    go_upto_region 1 with fail
    rw [← unhide HW1]
    go_wp2_with fail
    refine (unhide N0).mono ?_
    rintro e x1 ⟨rfl, k1⟩
    have d0 := (k1.cell (World.block_lt_of_cell? _ _ c0)).trans c0
    have d1 := (k1.cell (World.block_lt_of_cell? _ _ c1)).trans c1
    have d2 := (k1.cell (World.block_lt_of_cell? _ _ c2)).trans c2
    have d3 := (k1.cell (World.block_lt_of_cell? _ _ c3)).trans c3
    have d4 := (k1.cell (World.block_lt_of_cell? _ _ c4)).trans c4
    have d5 := (k1.cell (World.block_lt_of_cell? _ _ c5)).trans c5
    have d6 := (k1.cell (World.block_lt_of_cell? _ _ c6)).trans c6
    have d7 := (k1.cell (World.block_lt_of_cell? _ _ c7)).trans c7
    have d8 := (k1.cell (World.block_lt_of_cell? _ _ c8)).trans c8
    have d9 := (k1.cell (World.block_lt_of_cell? _ _ c9)).trans c9
    have d10 := (k1.cell (World.block_lt_of_cell? _ _ c10)).trans c10
    have KB := hide (And.intro (unhide HB1) k1)
    clear k1
    go_wp2_with fail
    refine (unhide N1 _).mono ?_
    rintro e x2 ⟨rfl, k2⟩
    have f0 := (k2.cell (World.block_lt_of_cell? _ _ d0)).trans d0
    have f1 := (k2.cell (World.block_lt_of_cell? _ _ d1)).trans d1
    have f2 := (k2.cell (World.block_lt_of_cell? _ _ d2)).trans d2
    have f3 := (k2.cell (World.block_lt_of_cell? _ _ d3)).trans d3
    have f4 := (k2.cell (World.block_lt_of_cell? _ _ d4)).trans d4
    have f5 := (k2.cell (World.block_lt_of_cell? _ _ d5)).trans d5
    have f6 := (k2.cell (World.block_lt_of_cell? _ _ d6)).trans d6
    have f7 := (k2.cell (World.block_lt_of_cell? _ _ d7)).trans d7
    have f8 := (k2.cell (World.block_lt_of_cell? _ _ d8)).trans d8
    have f9 := (k2.cell (World.block_lt_of_cell? _ _ d9)).trans d9
    have f10 := (k2.cell (World.block_lt_of_cell? _ _ d10)).trans d10
    have KC := hide (And.intro (unhide KB) k2)
    clear k2 d0 d1 d2 d3 d4 d5 d6 d7 d8 d9 d10 c0 c1 c2 c3 c4 c5 c6 c7 c8 c9 c10 KB
    go_wp2_with fail
    refine (unhide N2 _).mono ?_
    rintro e y2 ⟨rfl, hy⟩
    have hy' := hy.symm
    subst hy'
    clear hy
    go_wp2_with fail
    refine (unhide N3 _).mono ?_
    rintro e y3 ⟨rfl, hy⟩
    have hy' := hy.symm
    subst hy'
    clear hy
    go_wp2_with fail
    refine (unhide N5 _).mono ?_
    rintro e y5 ⟨rfl, hy⟩
    have hy' := hy.symm
    subst hy'
    clear hy
    go_wp2_with fail
    refine (unhide N6 _).mono ?_
    rintro e y6 ⟨rfl, hy⟩
    have hy' := hy.symm
    subst hy'
    clear hy
    go_wp2_with fail
    refine (unhide N7 _).mono ?_
    rintro e y7 ⟨rfl, hy⟩
    have hy' := hy.symm
    subst hy'
    clear hy
    go_wp2_with fail
    refine (unhide N8 _).mono ?_
    rintro e y8 ⟨rfl, hy⟩
    have hy' := hy.symm
    subst hy'
    clear hy
    go_wp2_with fail
    refine (unhide N9 _).mono ?_
    rintro e y9 ⟨rfl, hy⟩
    have hy' := hy.symm
    subst hy'
    clear hy
    go_wp2
    go_ret
    exact ⟨rfl, ((unhide KC).1.1.trans ((unhide KC).1.2.mono (unhide KC).1.1.size)).trans ((unhide KC).2.mono ((unhide KC).1.1.trans ((unhide KC).1.2.mono (unhide KC).1.1.size)).size)⟩
end Go.Proofs.Ytolicaaifhfhcaa
namespace Go.Proofs.Ytolicaaifhfhcaa
open Go.RowKit
set_option linter.unusedVariables false

def oneT (n : Int) : ByteArray := strOfNums [lowByte n]
def twoT (n : Int) : ByteArray := strOfNums [lowByte (n / 256), lowByte n]
theorem one_byteT (w : World) (x : Int) :
    (convert 55 9 (.slice (some ⟨w.heap.size, 0, none⟩) 1 1)).run Try.prog (w.alloc (.cells #[.int .u8 x] 5)) = .ok (.string (strOfNums [x])) (w.alloc (.cells #[.int .u8 x] 5)) :=
  one_byteP _ w x rfl
theorem two_bytesT (w : World) (x y : Int) :
    (convert 55 9 (.slice (some ⟨w.heap.size, 0, none⟩) 2 2)).run Try.prog (w.alloc (.cells #[.int .u8 x, .int .u8 y] 5)) = .ok (.string (strOfNums [x, y])) (w.alloc (.cells #[.int .u8 x, .int .u8 y] 5)) :=
  run_convert_bytes_arg (P := Try.prog) _ 55 5 Try.underlying55 Try.underlying5 w.heap.size 0 2 2 [x, y] rfl (fun i hi => by
    have h2 : i = 0 ∨ i = 1 := by omega
    rcases h2 with rfl | rfl <;> simp) 9 Try.underlying9
theorem tone_any (n : Int) (w : World) :
    Calls Try.prog 14 #[.int .i64 n] w fun e w' => e = .returned (.string (oneT n)) ∧ Below w.heap.size w w' := by
  have hcv := one_byteT
  have HB := hide (fun o : Obj => (Below.refl w.heap.size w).alloc (Nat.le_refl _) o)
  go_enter Try.func14, Try.ntmps14
  go_wp2
  go_ret
  exact ⟨rfl, unhide HB _⟩
theorem ttwo_any (n : Int) (w : World) :
    Calls Try.prog 16 #[.int .i64 n] w fun e w' => e = .returned (.string (twoT n)) ∧ Below w.heap.size w w' := by
  have hcv := two_bytesT
  have HB := hide (fun o : Obj => (Below.refl w.heap.size w).alloc (Nat.le_refl _) o)
  go_enter Try.func16, Try.ntmps16
  go_wp2
  go_ret
  exact ⟨rfl, unhide HB _⟩
def flagT (b : Bool) : Int := bif b then 1 else 0
theorem flag_any (b : Bool) (w : World) :
    Calls Try.prog 15 #[.bool b] w fun e w' => e = .returned (.int .i64 (flagT b)) ∧ Below w.heap.size w w' := by
  cases b <;>
  · go_enter Try.func15, Try.ntmps15
    go_wp2
    go_ret
    exact ⟨rfl, Below.refl _ _⟩
theorem cnumber_any (n k : Int) (w : World) (hn : n ≤ 9223372036854775807) :
    Calls Try.prog 13 #[.int .i64 n, .int .i64 k] w fun e w' => e = .returned (.string (numS n k)) ∧ Below w.heap.size w w' := by
  have N1 := hide (fun w => number_all n k w hn)
  generalize numS n k = s at *
  generalize numE n k = ne at *
  go_enter Try.func13, Try.ntmps13
  go_wp2_with fail
  refine (unhide N1 _).mono ?_
  rintro e w1 ⟨rfl, hb1⟩
  go_wp2
  go_ret
  exact ⟨rfl, hb1⟩
/-- how a deal is written -/
def dealT (d : XDeal) : ByteArray := numS d.shop 4 ++ numS d.trace 4 ++ numS d.amount 8 ++ oneT (flagT d.cash) ++ twoT d.day ++ twoT d.bits ++ d.nonce
def dealS (d : XDeal) : ByteArray := if dealE d = 0 then dealT d else ⟨#[]⟩
theorem oneT_size (n : Int) : (oneT n).size = 1 := by rw [oneT, strOfNums_size]; rfl
theorem twoT_size (n : Int) : (twoT n).size = 2 := by rw [twoT, strOfNums_size]; rfl
theorem deal_in {d : XDeal} (h : dealE d = 0) : (0 ≤ d.amount ∧ d.amount ≤ 999999999999) ∧ (0 ≤ d.shop ∧ d.shop ≤ 4294967295) ∧ (0 ≤ d.trace ∧ d.trace ≤ 4294967295) ∧ (0 ≤ d.day ∧ d.day ≤ 65535) ∧ (0 ≤ d.bits ∧ d.bits ≤ 4095) ∧ d.nonce.size = 8 := by
  unfold dealE at h
  cases h1 : inT d.amount 0 999999999999 with
  | false => rw [h1] at h; cases h
  | true =>
  cases h2 : inT d.shop 0 4294967295 with
  | false => rw [h1, h2] at h; cases h
  | true =>
  cases h3 : inT d.trace 0 4294967295 with
  | false => rw [h1, h2, h3] at h; cases h
  | true =>
  cases h4 : inT d.day 0 65535 with
  | false => rw [h1, h2, h3, h4] at h; cases h
  | true =>
  cases h5 : inT d.bits 0 4095 with
  | false => rw [h1, h2, h3, h4, h5] at h; cases h
  | true =>
    rw [h1, h2, h3, h4, h5] at h
    by_cases h8 : d.nonce.size = 8
    · exact ⟨inT_true.1 h1, inT_true.1 h2, inT_true.1 h3, inT_true.1 h4, inT_true.1 h5, h8⟩
    · have h' : (if d.nonce.size = 8 then (0 : Int) else 1) = 0 := h
      rw [if_neg h8] at h'; cases h'
set_option maxRecDepth 100000 in
set_option maxHeartbeats 4000000 in
theorem dealText_any (d : XDeal) (w : World) (hok : okDeal w d) :
    Calls Try.prog 4 #[valDeal d] w fun e w' => e = .returned (.tuple #[.string (dealS d), .int .i64 (dealE d)]) ∧ Below w.heap.size w w' := by
  have n1 := fun w => checkDeal_any d w
  by_cases he : dealE d = 0
  case neg =>
    have HS : Hid (dealS d = ⟨#[]⟩) := hide (by rw [dealS, if_neg he])
    have t1 : (dealE d != 0) = true := by simpa using he
    generalize dealE d = de at *
    generalize dealS d = ds at *
    obtain ⟨sh, tr, am, ca, dy, bt, no⟩ := d
    unfold valDeal at *
    simp only at n1 ⊢
    have HB := hide ((Below.refl w.heap.size w).alloc (Nat.le_refl _) (.cells #[.int .i64 sh, .int .i64 tr, .int .i64 am, .bool ca, .int .i64 dy, .int .i64 bt, .string no] 28))
    have N1 := hide n1
    clear n1 he hok
    go_enter Try.func4, Try.ntmps4
    go_wp2_with fail
    refine (unhide N1 _).mono ?_
    rintro e w1 ⟨rfl, hb1⟩
    have HB1 := hide ((unhide HB).trans (hb1.mono (by simp)))
    clear hb1
    go_wp2
    go_ret2
    exact ⟨ret_pairQ (unhide HS).symm rfl, unhide HB1⟩
  have HS : Hid (dealS d = dealT d) := hide (by rw [dealS, if_pos he])
  obtain ⟨k1, k2, k3, k4, k5, k6⟩ := deal_in he
  rw [he] at n1 ⊢
  have HT : Hid (dealT d = numS d.shop 4 ++ numS d.trace 4 ++ numS d.amount 8 ++ oneT (flagT d.cash) ++ twoT d.day ++ twoT d.bits ++ d.nonce) := hide rfl
  generalize dealT d = dt at *
  generalize dealS d = ds at *
  obtain ⟨sh, tr, am, ca, dy, bt, no⟩ := d
  unfold valDeal at *
  simp only at *
  have n2 := fun w => cnumber_any sh 4 w (by omega)
  have n3 := fun w => cnumber_any tr 4 w (by omega)
  have n4 := fun w => cnumber_any am 8 w (by omega)
  have n5 := fun w => flag_any ca w
  have n6 := fun w => tone_any (flagT ca) w
  have n7 := fun w => ttwo_any dy w
  have n8 := fun w => ttwo_any bt w
  have z2 := numS_size sh 4; have z3 := numS_size tr 4; have z4 := numS_size am 8
  have z6 := oneT_size (flagT ca); have z7 := twoT_size dy; have z8 := twoT_size bt
  generalize numS sh 4 = a2 at *
  generalize numS tr 4 = a3 at *
  generalize numS am 8 = a4 at *
  generalize oneT (flagT ca) = a6 at *
  generalize flagT ca = fl at *
  generalize twoT dy = a7 at *
  generalize twoT bt = a8 at *
  have ha1 := fun w' => run_string_add_sum (P := Try.prog) w' a2 a3 (by omega)
  have ha2 := fun w' => run_string_add_sum (P := Try.prog) w' (a2 ++ a3) a4 (by simp only [ByteArray.size_append]; omega)
  have ha3 := fun w' => run_string_add_sum (P := Try.prog) w' (a2 ++ a3 ++ a4) a6 (by simp only [ByteArray.size_append]; omega)
  have ha4 := fun w' => run_string_add_sum (P := Try.prog) w' (a2 ++ a3 ++ a4 ++ a6) a7 (by simp only [ByteArray.size_append]; omega)
  have ha5 := fun w' => run_string_add_sum (P := Try.prog) w' (a2 ++ a3 ++ a4 ++ a6 ++ a7) a8 (by simp only [ByteArray.size_append]; omega)
  have ha6 := fun w' => run_string_add_sum (P := Try.prog) w' (a2 ++ a3 ++ a4 ++ a6 ++ a7 ++ a8) no (by simp only [ByteArray.size_append]; omega)
  have HB := hide ((Below.refl w.heap.size w).alloc (Nat.le_refl _) (.cells #[.int .i64 sh, .int .i64 tr, .int .i64 am, .bool ca, .int .i64 dy, .int .i64 bt, .string no] 28))
  have HBK := hide (heap_alloc_new w (.cells #[.int .i64 sh, .int .i64 tr, .int .i64 am, .bool ca, .int .i64 dy, .int .i64 bt, .string no] 28))
  have N1 := hide n1; have N2 := hide n2; have N3 := hide n3; have N4 := hide n4; have N5 := hide n5; have N6 := hide n6; have N7 := hide n7; have N8 := hide n8
  clear n1 n2 n3 n4 n5 n6 n7 n8 he k1 k2 k3 k4 k5 k6 z2 z3 z4 z6 z7 z8 hok
  go_enter Try.func4, Try.ntmps4
  go_wp2_with fail
  refine (unhide N1 _).mono ?_
  rintro e wa ⟨rfl, hb1⟩
  have hk := (hb1.block _ (block_ltQ (unhide HBK))).trans (unhide HBK)
  have HB1 := hide ((unhide HB).trans (hb1.mono (by simp)))
  have C : ∀ (w2 : World) (j : Nat), Below wa.heap.size wa w2 → w2.cell? ⟨w.heap.size, j, none⟩ = (#[.int .i64 sh, .int .i64 tr, .int .i64 am, .bool ca, .int .i64 dy, .int .i64 bt, .string no] : Array Value)[j]? := fun w2 j hb => by
    rw [cell_of_row _ _ j _ _ _ ((hb.block _ (block_ltQ hk)).trans hk)]
  have C0 := hide (fun (w2 : World) (hb : Below wa.heap.size wa w2) => (C w2 0 hb : w2.cell? ⟨w.heap.size, 0, none⟩ = some (.int .i64 sh)))
  have C1 := hide (fun (w2 : World) (hb : Below wa.heap.size wa w2) => (C w2 1 hb : w2.cell? ⟨w.heap.size, 1, none⟩ = some (.int .i64 tr)))
  have C2 := hide (fun (w2 : World) (hb : Below wa.heap.size wa w2) => (C w2 2 hb : w2.cell? ⟨w.heap.size, 2, none⟩ = some (.int .i64 am)))
  have C3 := hide (fun (w2 : World) (hb : Below wa.heap.size wa w2) => (C w2 3 hb : w2.cell? ⟨w.heap.size, 3, none⟩ = some (.bool ca)))
  have C4 := hide (fun (w2 : World) (hb : Below wa.heap.size wa w2) => (C w2 4 hb : w2.cell? ⟨w.heap.size, 4, none⟩ = some (.int .i64 dy)))
  have C5 := hide (fun (w2 : World) (hb : Below wa.heap.size wa w2) => (C w2 5 hb : w2.cell? ⟨w.heap.size, 5, none⟩ = some (.int .i64 bt)))
  have C6 := hide (fun (w2 : World) (hb : Below wa.heap.size wa w2) => (C w2 6 hb : w2.cell? ⟨w.heap.size, 6, none⟩ = some (.string no)))
  clear hb1 hk C HB HBK
  go_wp2_with fail
  refine wp_region_below wa (Below.refl _ _) (by kernel_rfl) (by kernel_rfl) ?_
  repeat (
    refine Quietly.step (fun K hK => ?_)
    go_simp
    first
      | (refine hK _ ?_; clear hK K)
      | (apply Exists.intro
         refine ⟨fun w1 hw1 => ?_, hK _ ?_⟩
         (first | rfl | (rw [unhide C0 w1 hw1]; exact ⟨rfl, rfl⟩) | (rw [unhide C1 w1 hw1]; exact ⟨rfl, rfl⟩) | (rw [unhide C2 w1 hw1]; exact ⟨rfl, rfl⟩) | (rw [unhide C3 w1 hw1]; exact ⟨rfl, rfl⟩) | (rw [unhide C4 w1 hw1]; exact ⟨rfl, rfl⟩) | (rw [unhide C5 w1 hw1]; exact ⟨rfl, rfl⟩) | (rw [unhide C6 w1 hw1]; exact ⟨rfl, rfl⟩) | (go_at_call_of 13 (Value.int .i64 sh); exact calls_below hw1 (unhide N2 _)) | (go_at_call_of 13 (Value.int .i64 tr); exact calls_below hw1 (unhide N3 _)) | (go_at_call_of 13 (Value.int .i64 am); exact calls_below hw1 (unhide N4 _)) | (go_at_call 15; exact calls_below hw1 (unhide N5 _)) | (go_at_call 14; exact calls_below hw1 (unhide N6 _)) | (go_at_call_of 16 (Value.int .i64 dy); exact calls_below hw1 (unhide N7 _)) | (go_at_call_of 16 (Value.int .i64 bt); exact calls_below hw1 (unhide N8 _)))
         clear hK K))
  refine Quietly.nil ?_
  intro w2 hw2
  go_wp2
  go_ret2
  exact ⟨ret_pairQ (by rw [unhide HS, unhide HT]) rfl, (unhide HB1).trans (hw2.mono (unhide HB1).size)⟩
end Go.Proofs.Ytolicaaifhfhcaa
