/- Deals of the program: CheckDeal, DealText. -/
import Derived.Test.YtajkbkljonejnaaGreatDoorM37
import Derived.Test.YtajkbkljonejnaaGreatDoorM00
import Derived.Test.YtajkbkljonejnaaGreatDoorM02
import Derived.Test.YtajkbkljonejnaaGreatDoorM33
import Derived.Test.YtajkbkljonejnaaGreatDoorM35
import Derived.Test.YtajkbkljonejnaaGreatDoorM14
namespace Go.Proofs.YtajkbkljonejnaaGreatDoor
open Go.RowKit
set_option linter.unusedVariables false
theorem cwithin_any (n a b : Int) (w : World) :
    Calls Tryz.prog 46 #[.int .i64 n, .int .i64 a, .int .i64 b] w fun e w' => e = .returned (.bool (inT n a b)) ∧ w' = w := by
  by_cases h1 : a ≤ n
  · by_cases h2 : n ≤ b
    · have HD : Hid (inT n a b = true) := hide (decide_eq_true ⟨h1, h2⟩)
      generalize inT n a b = r at *
      go_enter Tryz.func46, Tryz.ntmps46
      go_wp2
      go_ret
      exact ⟨ret_boolQ (unhide HD).symm, rfl⟩
    · have HD : Hid (inT n a b = false) := hide (decide_eq_false (fun h => h2 h.2))
      generalize inT n a b = r at *
      go_enter Tryz.func46, Tryz.ntmps46
      go_wp2
      go_ret
      exact ⟨ret_boolQ (unhide HD).symm, rfl⟩
  · have HD : Hid (inT n a b = false) := hide (decide_eq_false (fun h => h1 h.1))
    generalize inT n a b = r at *
    go_enter Tryz.func46, Tryz.ntmps46
    go_wp2
    go_ret
    exact ⟨ret_boolQ (unhide HD).symm, rfl⟩
theorem tIsAmount_any (n : Int) (w : World) :
    Calls Tryz.prog 45 #[.int .i64 n] w fun e w' => e = .returned (.bool (inT n 0 999999999999)) ∧ w' = w := by
  have N1 := hide (fun w => cwithin_any n 0 999999999999 w)
  generalize inT n 0 999999999999 = b at *
  go_enter Tryz.func45, Tryz.ntmps45
  go_wp2_with fail
  refine (unhide N1 _).mono ?_
  rintro e w1 ⟨rfl, rfl⟩
  go_wp2
  go_ret
  exact ⟨rfl, rfl⟩
end Go.Proofs.YtajkbkljonejnaaGreatDoor
namespace Go.Proofs.YtajkbkljonejnaaGreatDoor
open Go.RowKit
set_option linter.unusedVariables false
set_option linter.unusedSimpArgs false
set_option maxRecDepth 100000
def planCE (id pin key : ByteArray) (pu on ru tr ve : Int) (sp sq : ByteArray) (fs : List (Int × Int)) : Int :=
  bif digitsBO id 8 19 && (digitsBO pin 4 12 && (decide (key.size = 16) && !(fieldsE fs == 1))) then (bif inT pu 0 999999999999 && (inT on 0 999999999999 && (inT ru 0 255 && (inT tr 1 15 && inT ve 0 255))) then (bif decide (20 < fs.length) then 2 else secE sp sq) else 3) else 1
set_option maxHeartbeats 4000000 in
theorem checkPlanC_any (id pin key : ByteArray) (pu on ru tr ve : Int) (sp sq : ByteArray) (fs : List (Int × Int)) (ao : Option Addr) (cap : Nat) (w : World) (hi : id.size ≤ maxLen) (hp : pin.size ≤ maxLen) (hr : FRow w ao fs) (hn : FNums fs) (hl : (fs.length : Int) ≤ 9000000000000) :
    Calls Tryz.prog 15 #[.agg #[.string id, .string pin, .string key, .int .i64 pu, .int .i64 on, .int .i64 ru, .int .i64 tr, .int .i64 ve, .string sp, .string sq, .slice ao fs.length cap]] w fun e w' => e = .returned (.int .i64 (planCE id pin key pu on ru tr ve sp sq fs)) ∧ Below w.heap.size w w' := by
  obtain ⟨W1, hW1⟩ : ∃ W1, W1 = w.alloc (.cells #[.string id, .string pin, .string key, .int .i64 pu, .int .i64 on, .int .i64 ru, .int .i64 tr, .int .i64 ve, .string sp, .string sq, .slice ao fs.length cap] 26) := ⟨_, rfl⟩
  have hB1 : Below w.heap.size w W1 := by rw [hW1]; exact (Below.refl _ _).alloc (Nat.le_refl _) _
  have hX1 : W1.heap[w.heap.size]? = some (.cells #[.string id, .string pin, .string key, .int .i64 pu, .int .i64 on, .int .i64 ru, .int .i64 tr, .int .i64 ve, .string sp, .string sq, .slice ao fs.length cap] 26 (0, 0)) := by rw [hW1]; exact heap_alloc_new _ _
  obtain ⟨R, hR⟩ : ∃ R, R = planCE id pin key pu on ru tr ve sp sq fs := ⟨_, rfl⟩
  rw [← hR]
  unfold planCE at hR
  have c0 : W1.cell? ⟨w.heap.size, 0, none⟩ = some (.string id) := cell_of_row _ _ 0 _ _ _ hX1
  have c1 : W1.cell? ⟨w.heap.size, 1, none⟩ = some (.string pin) := cell_of_row _ _ 1 _ _ _ hX1
  have c2 : W1.cell? ⟨w.heap.size, 2, none⟩ = some (.string key) := cell_of_row _ _ 2 _ _ _ hX1
  have c3 : W1.cell? ⟨w.heap.size, 3, none⟩ = some (.int .i64 pu) := cell_of_row _ _ 3 _ _ _ hX1
  have c4 : W1.cell? ⟨w.heap.size, 4, none⟩ = some (.int .i64 on) := cell_of_row _ _ 4 _ _ _ hX1
  have c5 : W1.cell? ⟨w.heap.size, 5, none⟩ = some (.int .i64 ru) := cell_of_row _ _ 5 _ _ _ hX1
  have c6 : W1.cell? ⟨w.heap.size, 6, none⟩ = some (.int .i64 tr) := cell_of_row _ _ 6 _ _ _ hX1
  have c7 : W1.cell? ⟨w.heap.size, 7, none⟩ = some (.int .i64 ve) := cell_of_row _ _ 7 _ _ _ hX1
  have c8 : W1.cell? ⟨w.heap.size, 8, none⟩ = some (.string sp) := cell_of_row _ _ 8 _ _ _ hX1
  have c9 : W1.cell? ⟨w.heap.size, 9, none⟩ = some (.string sq) := cell_of_row _ _ 9 _ _ _ hX1
  have c10 : W1.cell? ⟨w.heap.size, 10, none⟩ = some (.slice ao fs.length cap) := cell_of_row _ _ 10 _ _ _ hX1
  have n0 := printF_all fs ao cap W1 (hr.below hB1) hn hl
  have n1 := fun w' => modulus_any sp sq w'
  have n2 := fun w' => digits_any id 8 19 hi w'
  have n3 := fun w' => isPin_any pin hp w'
  have n5 := fun w' => tIsAmount_any pu w'
  have n6 := fun w' => tIsAmount_any on w'
  have n7 := fun w' => cwithin_any ru 0 255 w'
  have n8 := fun w' => cwithin_any tr 1 15 w'
  have n9 := fun w' => cwithin_any ve 0 255 w'
  generalize printS fs = ps at *
  generalize secM sp sq = sm at *
  generalize secE sp sq = se at *
  generalize fieldsE fs = fe at *
  generalize digitsBO id 8 19 = b1 at *
  generalize digitsBO pin 4 12 = b2 at *
  generalize inT pu 0 999999999999 = b5 at *
  generalize inT on 0 999999999999 = b6 at *
  generalize inT ru 0 255 = b7 at *
  generalize inT tr 1 15 = b8 at *
  generalize inT ve 0 255 = b9 at *
  have HB1 := hide hB1; have HW1 := hide hW1
  have N0 := hide n0
  have N1 := hide n1
  have N2 := hide n2
  have N3 := hide n3
  have N5 := hide n5
  have N6 := hide n6
  have N7 := hide n7
  have N8 := hide n8
  have N9 := hide n9
  clear n0 n1 n2 n3 n5 n6 n7 n8 n9 hB1 hW1 hX1 hi hp hr hn hl
  cases b1 with
  | false =>
    obtain rfl : R = 1 := hR
    go_enter Tryz.func15, Tryz.ntmps15
    go_upto_region 1 with fail
    rw [← unhide HW1]
    go_wp2_with fail
    refine (unhide N0).mono ?_
    rintro e x1 ⟨rfl, k1⟩
    have d0 := (k1.cell (World.block_lt_of_cell? _ _ c0)).trans c0
    have d1 := (k1.cell (World.block_lt_of_cell? _ _ c1)).trans c1
    have d2 := (k1.cell (World.block_lt_of_cell? _ _ c2)).trans c2
    have d3 := (k1.cell (World.block_lt_of_cell? _ _ c3)).trans c3
    have d4 := (k1.cell (World.block_lt_of_cell? _ _ c4)).trans c4
    have d5 := (k1.cell (World.block_lt_of_cell? _ _ c5)).trans c5
    have d6 := (k1.cell (World.block_lt_of_cell? _ _ c6)).trans c6
    have d7 := (k1.cell (World.block_lt_of_cell? _ _ c7)).trans c7
    have d8 := (k1.cell (World.block_lt_of_cell? _ _ c8)).trans c8
    have d9 := (k1.cell (World.block_lt_of_cell? _ _ c9)).trans c9
    have d10 := (k1.cell (World.block_lt_of_cell? _ _ c10)).trans c10
    have KB := hide (And.intro (unhide HB1) k1)
    clear k1
    go_wp2_with fail
    refine (unhide N1 _).mono ?_
    rintro e x2 ⟨rfl, k2⟩
    have f0 := (k2.cell (World.block_lt_of_cell? _ _ d0)).trans d0
    have f1 := (k2.cell (World.block_lt_of_cell? _ _ d1)).trans d1
    have f2 := (k2.cell (World.block_lt_of_cell? _ _ d2)).trans d2
    have f3 := (k2.cell (World.block_lt_of_cell? _ _ d3)).trans d3
    have f4 := (k2.cell (World.block_lt_of_cell? _ _ d4)).trans d4
    have f5 := (k2.cell (World.block_lt_of_cell? _ _ d5)).trans d5
    have f6 := (k2.cell (World.block_lt_of_cell? _ _ d6)).trans d6
    have f7 := (k2.cell (World.block_lt_of_cell? _ _ d7)).trans d7
    have f8 := (k2.cell (World.block_lt_of_cell? _ _ d8)).trans d8
    have f9 := (k2.cell (World.block_lt_of_cell? _ _ d9)).trans d9
    have f10 := (k2.cell (World.block_lt_of_cell? _ _ d10)).trans d10
    have KC := hide (And.intro (unhide KB) k2)
    clear k2 d0 d1 d2 d3 d4 d5 d6 d7 d8 d9 d10 c0 c1 c2 c3 c4 c5 c6 c7 c8 c9 c10 KB
    go_wp2_with fail
    refine (unhide N2 _).mono ?_
    rintro e y2 ⟨rfl, hy⟩
    have hy' := hy.symm
    subst hy'
    clear hy
    go_wp2
    go_ret
    exact ⟨rfl, ((unhide KC).1.1.trans ((unhide KC).1.2.mono (unhide KC).1.1.size)).trans ((unhide KC).2.mono ((unhide KC).1.1.trans ((unhide KC).1.2.mono (unhide KC).1.1.size)).size)⟩
  | true =>
  cases b2 with
  | false =>
    obtain rfl : R = 1 := hR
    go_enter Tryz.func15, Tryz.ntmps15
    go_upto_region 1 with fail
    rw [← unhide HW1]
    go_wp2_with fail
    refine (unhide N0).mono ?_
    rintro e x1 ⟨rfl, k1⟩
    have d0 := (k1.cell (World.block_lt_of_cell? _ _ c0)).trans c0
    have d1 := (k1.cell (World.block_lt_of_cell? _ _ c1)).trans c1
    have d2 := (k1.cell (World.block_lt_of_cell? _ _ c2)).trans c2
    have d3 := (k1.cell (World.block_lt_of_cell? _ _ c3)).trans c3
    have d4 := (k1.cell (World.block_lt_of_cell? _ _ c4)).trans c4
    have d5 := (k1.cell (World.block_lt_of_cell? _ _ c5)).trans c5
    have d6 := (k1.cell (World.block_lt_of_cell? _ _ c6)).trans c6
    have d7 := (k1.cell (World.block_lt_of_cell? _ _ c7)).trans c7
    have d8 := (k1.cell (World.block_lt_of_cell? _ _ c8)).trans c8
    have d9 := (k1.cell (World.block_lt_of_cell? _ _ c9)).trans c9
    have d10 := (k1.cell (World.block_lt_of_cell? _ _ c10)).trans c10
    have KB := hide (And.intro (unhide HB1) k1)
    clear k1
    go_wp2_with fail
    refine (unhide N1 _).mono ?_
    rintro e x2 ⟨rfl, k2⟩
    have f0 := (k2.cell (World.block_lt_of_cell? _ _ d0)).trans d0
    have f1 := (k2.cell (World.block_lt_of_cell? _ _ d1)).trans d1
    have f2 := (k2.cell (World.block_lt_of_cell? _ _ d2)).trans d2
    have f3 := (k2.cell (World.block_lt_of_cell? _ _ d3)).trans d3
    have f4 := (k2.cell (World.block_lt_of_cell? _ _ d4)).trans d4
    have f5 := (k2.cell (World.block_lt_of_cell? _ _ d5)).trans d5
    have f6 := (k2.cell (World.block_lt_of_cell? _ _ d6)).trans d6
    have f7 := (k2.cell (World.block_lt_of_cell? _ _ d7)).trans d7
    have f8 := (k2.cell (World.block_lt_of_cell? _ _ d8)).trans d8
    have f9 := (k2.cell (World.block_lt_of_cell? _ _ d9)).trans d9
    have f10 := (k2.cell (World.block_lt_of_cell? _ _ d10)).trans d10
    have KC := hide (And.intro (unhide KB) k2)
    clear k2 d0 d1 d2 d3 d4 d5 d6 d7 d8 d9 d10 c0 c1 c2 c3 c4 c5 c6 c7 c8 c9 c10 KB
    go_wp2_with fail
    refine (unhide N2 _).mono ?_
    rintro e y2 ⟨rfl, hy⟩
    have hy' := hy.symm
    subst hy'
    clear hy
    go_wp2_with fail
    refine (unhide N3 _).mono ?_
    rintro e y3 ⟨rfl, hy⟩
    have hy' := hy.symm
    subst hy'
    clear hy
    go_wp2
    go_ret
    exact ⟨rfl, ((unhide KC).1.1.trans ((unhide KC).1.2.mono (unhide KC).1.1.size)).trans ((unhide KC).2.mono ((unhide KC).1.1.trans ((unhide KC).1.2.mono (unhide KC).1.1.size)).size)⟩
  | true =>
  by_cases hk : key.size = 16
  case neg =>
    have hR' : R = 1 := by rw [decide_eq_false hk] at hR; exact hR
    have tk : ((key.size : Int) != 16) = true := by rw [bne_iff_ne]; omega
    clear hR
    subst hR'
    go_enter Tryz.func15, Tryz.ntmps15
    go_upto_region 1 with fail
    rw [← unhide HW1]
    go_wp2_with fail
    refine (unhide N0).mono ?_
    rintro e x1 ⟨rfl, k1⟩
    have d0 := (k1.cell (World.block_lt_of_cell? _ _ c0)).trans c0
    have d1 := (k1.cell (World.block_lt_of_cell? _ _ c1)).trans c1
    have d2 := (k1.cell (World.block_lt_of_cell? _ _ c2)).trans c2
    have d3 := (k1.cell (World.block_lt_of_cell? _ _ c3)).trans c3
    have d4 := (k1.cell (World.block_lt_of_cell? _ _ c4)).trans c4
    have d5 := (k1.cell (World.block_lt_of_cell? _ _ c5)).trans c5
    have d6 := (k1.cell (World.block_lt_of_cell? _ _ c6)).trans c6
    have d7 := (k1.cell (World.block_lt_of_cell? _ _ c7)).trans c7
    have d8 := (k1.cell (World.block_lt_of_cell? _ _ c8)).trans c8
    have d9 := (k1.cell (World.block_lt_of_cell? _ _ c9)).trans c9
    have d10 := (k1.cell (World.block_lt_of_cell? _ _ c10)).trans c10
    have KB := hide (And.intro (unhide HB1) k1)
    clear k1
    go_wp2_with fail
    refine (unhide N1 _).mono ?_
    rintro e x2 ⟨rfl, k2⟩
    have f0 := (k2.cell (World.block_lt_of_cell? _ _ d0)).trans d0
    have f1 := (k2.cell (World.block_lt_of_cell? _ _ d1)).trans d1
    have f2 := (k2.cell (World.block_lt_of_cell? _ _ d2)).trans d2
    have f3 := (k2.cell (World.block_lt_of_cell? _ _ d3)).trans d3
    have f4 := (k2.cell (World.block_lt_of_cell? _ _ d4)).trans d4
    have f5 := (k2.cell (World.block_lt_of_cell? _ _ d5)).trans d5
    have f6 := (k2.cell (World.block_lt_of_cell? _ _ d6)).trans d6
    have f7 := (k2.cell (World.block_lt_of_cell? _ _ d7)).trans d7
    have f8 := (k2.cell (World.block_lt_of_cell? _ _ d8)).trans d8
    have f9 := (k2.cell (World.block_lt_of_cell? _ _ d9)).trans d9
    have f10 := (k2.cell (World.block_lt_of_cell? _ _ d10)).trans d10
    have KC := hide (And.intro (unhide KB) k2)
    clear k2 d0 d1 d2 d3 d4 d5 d6 d7 d8 d9 d10 c0 c1 c2 c3 c4 c5 c6 c7 c8 c9 c10 KB
    go_wp2_with fail
    refine (unhide N2 _).mono ?_
    rintro e y2 ⟨rfl, hy⟩
    have hy' := hy.symm
    subst hy'
    clear hy
    go_wp2_with fail
    refine (unhide N3 _).mono ?_
    rintro e y3 ⟨rfl, hy⟩
    have hy' := hy.symm
    subst hy'
    clear hy
    go_wp2
    go_ret
    exact ⟨rfl, ((unhide KC).1.1.trans ((unhide KC).1.2.mono (unhide KC).1.1.size)).trans ((unhide KC).2.mono ((unhide KC).1.1.trans ((unhide KC).1.2.mono (unhide KC).1.1.size)).size)⟩
  have tk : ((key.size : Int) != 16) = false := by rw [bne_eq_false_iff_eq]; omega
  rw [decide_eq_true hk] at hR
  clear hk
  cases te : (fe == 1) with
  | true =>
    have hR' : R = 1 := by rw [te] at hR; exact hR
    clear hR
    subst hR'
    go_enter Tryz.func15, Tryz.ntmps15
    go_upto_region 1 with fail
    rw [← unhide HW1]
    go_wp2_with fail
    refine (unhide N0).mono ?_
    rintro e x1 ⟨rfl, k1⟩
    have d0 := (k1.cell (World.block_lt_of_cell? _ _ c0)).trans c0
    have d1 := (k1.cell (World.block_lt_of_cell? _ _ c1)).trans c1
    have d2 := (k1.cell (World.block_lt_of_cell? _ _ c2)).trans c2
    have d3 := (k1.cell (World.block_lt_of_cell? _ _ c3)).trans c3
    have d4 := (k1.cell (World.block_lt_of_cell? _ _ c4)).trans c4
    have d5 := (k1.cell (World.block_lt_of_cell? _ _ c5)).trans c5
    have d6 := (k1.cell (World.block_lt_of_cell? _ _ c6)).trans c6
    have d7 := (k1.cell (World.block_lt_of_cell? _ _ c7)).trans c7
    have d8 := (k1.cell (World.block_lt_of_cell? _ _ c8)).trans c8
    have d9 := (k1.cell (World.block_lt_of_cell? _ _ c9)).trans c9
    have d10 := (k1.cell (World.block_lt_of_cell? _ _ c10)).trans c10
    have KB := hide (And.intro (unhide HB1) k1)
    clear k1
    go_wp2_with fail
    refine (unhide N1 _).mono ?_
    rintro e x2 ⟨rfl, k2⟩
    have f0 := (k2.cell (World.block_lt_of_cell? _ _ d0)).trans d0
    have f1 := (k2.cell (World.block_lt_of_cell? _ _ d1)).trans d1
    have f2 := (k2.cell (World.block_lt_of_cell? _ _ d2)).trans d2
    have f3 := (k2.cell (World.block_lt_of_cell? _ _ d3)).trans d3
    have f4 := (k2.cell (World.block_lt_of_cell? _ _ d4)).trans d4
    have f5 := (k2.cell (World.block_lt_of_cell? _ _ d5)).trans d5
    have f6 := (k2.cell (World.block_lt_of_cell? _ _ d6)).trans d6
    have f7 := (k2.cell (World.block_lt_of_cell? _ _ d7)).trans d7
    have f8 := (k2.cell (World.block_lt_of_cell? _ _ d8)).trans d8
    have f9 := (k2.cell (World.block_lt_of_cell? _ _ d9)).trans d9
    have f10 := (k2.cell (World.block_lt_of_cell? _ _ d10)).trans d10
    have KC := hide (And.intro (unhide KB) k2)
    clear k2 d0 d1 d2 d3 d4 d5 d6 d7 d8 d9 d10 c0 c1 c2 c3 c4 c5 c6 c7 c8 c9 c10 KB
    go_wp2_with fail
    refine (unhide N2 _).mono ?_
    rintro e y2 ⟨rfl, hy⟩
    have hy' := hy.symm
    subst hy'
    clear hy
    go_wp2_with fail
    refine (unhide N3 _).mono ?_
    rintro e y3 ⟨rfl, hy⟩
    have hy' := hy.symm
    subst hy'
    clear hy
    go_wp2
    go_ret
    exact ⟨rfl, ((unhide KC).1.1.trans ((unhide KC).1.2.mono (unhide KC).1.1.size)).trans ((unhide KC).2.mono ((unhide KC).1.1.trans ((unhide KC).1.2.mono (unhide KC).1.1.size)).size)⟩
  | false =>
  rw [te] at hR
  cases b5 with
  | false =>
    obtain rfl : R = 3 := hR
    go_enter Tryz.func15, Tryz.ntmps15
    go_upto_region 1 with fail
    rw [← unhide HW1]
    go_wp2_with fail
    refine (unhide N0).mono ?_
    rintro e x1 ⟨rfl, k1⟩
    have d0 := (k1.cell (World.block_lt_of_cell? _ _ c0)).trans c0
    have d1 := (k1.cell (World.block_lt_of_cell? _ _ c1)).trans c1
    have d2 := (k1.cell (World.block_lt_of_cell? _ _ c2)).trans c2
    have d3 := (k1.cell (World.block_lt_of_cell? _ _ c3)).trans c3
    have d4 := (k1.cell (World.block_lt_of_cell? _ _ c4)).trans c4
    have d5 := (k1.cell (World.block_lt_of_cell? _ _ c5)).trans c5
    have d6 := (k1.cell (World.block_lt_of_cell? _ _ c6)).trans c6
    have d7 := (k1.cell (World.block_lt_of_cell? _ _ c7)).trans c7
    have d8 := (k1.cell (World.block_lt_of_cell? _ _ c8)).trans c8
    have d9 := (k1.cell (World.block_lt_of_cell? _ _ c9)).trans c9
    have d10 := (k1.cell (World.block_lt_of_cell? _ _ c10)).trans c10
    have KB := hide (And.intro (unhide HB1) k1)
    clear k1
    go_wp2_with fail
    refine (unhide N1 _).mono ?_
    rintro e x2 ⟨rfl, k2⟩
    have f0 := (k2.cell (World.block_lt_of_cell? _ _ d0)).trans d0
    have f1 := (k2.cell (World.block_lt_of_cell? _ _ d1)).trans d1
    have f2 := (k2.cell (World.block_lt_of_cell? _ _ d2)).trans d2
    have f3 := (k2.cell (World.block_lt_of_cell? _ _ d3)).trans d3
    have f4 := (k2.cell (World.block_lt_of_cell? _ _ d4)).trans d4
    have f5 := (k2.cell (World.block_lt_of_cell? _ _ d5)).trans d5
    have f6 := (k2.cell (World.block_lt_of_cell? _ _ d6)).trans d6
    have f7 := (k2.cell (World.block_lt_of_cell? _ _ d7)).trans d7
    have f8 := (k2.cell (World.block_lt_of_cell? _ _ d8)).trans d8
    have f9 := (k2.cell (World.block_lt_of_cell? _ _ d9)).trans d9
    have f10 := (k2.cell (World.block_lt_of_cell? _ _ d10)).trans d10
    have KC := hide (And.intro (unhide KB) k2)
    clear k2 d0 d1 d2 d3 d4 d5 d6 d7 d8 d9 d10 c0 c1 c2 c3 c4 c5 c6 c7 c8 c9 c10 KB
    go_wp2_with fail
    refine (unhide N2 _).mono ?_
    rintro e y2 ⟨rfl, hy⟩
    have hy' := hy.symm
    subst hy'
    clear hy
    go_wp2_with fail
    refine (unhide N3 _).mono ?_
    rintro e y3 ⟨rfl, hy⟩
    have hy' := hy.symm
    subst hy'
    clear hy
    go_wp2_with fail
    refine (unhide N5 _).mono ?_
    rintro e y5 ⟨rfl, hy⟩
    have hy' := hy.symm
    subst hy'
    clear hy
    go_wp2
    go_ret
    exact ⟨rfl, ((unhide KC).1.1.trans ((unhide KC).1.2.mono (unhide KC).1.1.size)).trans ((unhide KC).2.mono ((unhide KC).1.1.trans ((unhide KC).1.2.mono (unhide KC).1.1.size)).size)⟩
  | true =>
  cases b6 with
  | false =>
    obtain rfl : R = 3 := hR
    go_enter Tryz.func15, Tryz.ntmps15
    go_upto_region 1 with fail
    rw [← unhide HW1]
    go_wp2_with fail
    refine (unhide N0).mono ?_
    rintro e x1 ⟨rfl, k1⟩
    have d0 := (k1.cell (World.block_lt_of_cell? _ _ c0)).trans c0
    have d1 := (k1.cell (World.block_lt_of_cell? _ _ c1)).trans c1
    have d2 := (k1.cell (World.block_lt_of_cell? _ _ c2)).trans c2
    have d3 := (k1.cell (World.block_lt_of_cell? _ _ c3)).trans c3
    have d4 := (k1.cell (World.block_lt_of_cell? _ _ c4)).trans c4
    have d5 := (k1.cell (World.block_lt_of_cell? _ _ c5)).trans c5
    have d6 := (k1.cell (World.block_lt_of_cell? _ _ c6)).trans c6
    have d7 := (k1.cell (World.block_lt_of_cell? _ _ c7)).trans c7
    have d8 := (k1.cell (World.block_lt_of_cell? _ _ c8)).trans c8
    have d9 := (k1.cell (World.block_lt_of_cell? _ _ c9)).trans c9
    have d10 := (k1.cell (World.block_lt_of_cell? _ _ c10)).trans c10
    have KB := hide (And.intro (unhide HB1) k1)
    clear k1
    go_wp2_with fail
    refine (unhide N1 _).mono ?_
    rintro e x2 ⟨rfl, k2⟩
    have f0 := (k2.cell (World.block_lt_of_cell? _ _ d0)).trans d0
    have f1 := (k2.cell (World.block_lt_of_cell? _ _ d1)).trans d1
    have f2 := (k2.cell (World.block_lt_of_cell? _ _ d2)).trans d2
    have f3 := (k2.cell (World.block_lt_of_cell? _ _ d3)).trans d3
    have f4 := (k2.cell (World.block_lt_of_cell? _ _ d4)).trans d4
    have f5 := (k2.cell (World.block_lt_of_cell? _ _ d5)).trans d5
    have f6 := (k2.cell (World.block_lt_of_cell? _ _ d6)).trans d6
    have f7 := (k2.cell (World.block_lt_of_cell? _ _ d7)).trans d7
    have f8 := (k2.cell (World.block_lt_of_cell? _ _ d8)).trans d8
    have f9 := (k2.cell (World.block_lt_of_cell? _ _ d9)).trans d9
    have f10 := (k2.cell (World.block_lt_of_cell? _ _ d10)).trans d10
    have KC := hide (And.intro (unhide KB) k2)
    clear k2 d0 d1 d2 d3 d4 d5 d6 d7 d8 d9 d10 c0 c1 c2 c3 c4 c5 c6 c7 c8 c9 c10 KB
    go_wp2_with fail
    refine (unhide N2 _).mono ?_
    rintro e y2 ⟨rfl, hy⟩
    have hy' := hy.symm
    subst hy'
    clear hy
    go_wp2_with fail
    refine (unhide N3 _).mono ?_
    rintro e y3 ⟨rfl, hy⟩
    have hy' := hy.symm
    subst hy'
    clear hy
    go_wp2_with fail
    refine (unhide N5 _).mono ?_
    rintro e y5 ⟨rfl, hy⟩
    have hy' := hy.symm
    subst hy'
    clear hy
    go_wp2_with fail
    refine (unhide N6 _).mono ?_
    rintro e y6 ⟨rfl, hy⟩
    have hy' := hy.symm
    subst hy'
    clear hy
    go_wp2
    go_ret
    exact ⟨rfl, ((unhide KC).1.1.trans ((unhide KC).1.2.mono (unhide KC).1.1.size)).trans ((unhide KC).2.mono ((unhide KC).1.1.trans ((unhide KC).1.2.mono (unhide KC).1.1.size)).size)⟩
  | true =>
  cases b7 with
  | false =>
    obtain rfl : R = 3 := hR
    go_enter Tryz.func15, Tryz.ntmps15
    go_upto_region 1 with fail
    rw [← unhide HW1]
    go_wp2_with fail
    refine (unhide N0).mono ?_
    rintro e x1 ⟨rfl, k1⟩
    have d0 := (k1.cell (World.block_lt_of_cell? _ _ c0)).trans c0
    have d1 := (k1.cell (World.block_lt_of_cell? _ _ c1)).trans c1
    have d2 := (k1.cell (World.block_lt_of_cell? _ _ c2)).trans c2
    have d3 := (k1.cell (World.block_lt_of_cell? _ _ c3)).trans c3
    have d4 := (k1.cell (World.block_lt_of_cell? _ _ c4)).trans c4
    have d5 := (k1.cell (World.block_lt_of_cell? _ _ c5)).trans c5
    have d6 := (k1.cell (World.block_lt_of_cell? _ _ c6)).trans c6
    have d7 := (k1.cell (World.block_lt_of_cell? _ _ c7)).trans c7
    have d8 := (k1.cell (World.block_lt_of_cell? _ _ c8)).trans c8
    have d9 := (k1.cell (World.block_lt_of_cell? _ _ c9)).trans c9
    have d10 := (k1.cell (World.block_lt_of_cell? _ _ c10)).trans c10
    have KB := hide (And.intro (unhide HB1) k1)
    clear k1
    go_wp2_with fail
    refine (unhide N1 _).mono ?_
    rintro e x2 ⟨rfl, k2⟩
    have f0 := (k2.cell (World.block_lt_of_cell? _ _ d0)).trans d0
    have f1 := (k2.cell (World.block_lt_of_cell? _ _ d1)).trans d1
    have f2 := (k2.cell (World.block_lt_of_cell? _ _ d2)).trans d2
    have f3 := (k2.cell (World.block_lt_of_cell? _ _ d3)).trans d3
    have f4 := (k2.cell (World.block_lt_of_cell? _ _ d4)).trans d4
    have f5 := (k2.cell (World.block_lt_of_cell? _ _ d5)).trans d5
    have f6 := (k2.cell (World.block_lt_of_cell? _ _ d6)).trans d6
    have f7 := (k2.cell (World.block_lt_of_cell? _ _ d7)).trans d7
    have f8 := (k2.cell (World.block_lt_of_cell? _ _ d8)).trans d8
    have f9 := (k2.cell (World.block_lt_of_cell? _ _ d9)).trans d9
    have f10 := (k2.cell (World.block_lt_of_cell? _ _ d10)).trans d10
    have KC := hide (And.intro (unhide KB) k2)
    clear k2 d0 d1 d2 d3 d4 d5 d6 d7 d8 d9 d10 c0 c1 c2 c3 c4 c5 c6 c7 c8 c9 c10 KB
    go_wp2_with fail
    refine (unhide N2 _).mono ?_
    rintro e y2 ⟨rfl, hy⟩
    have hy' := hy.symm
    subst hy'
    clear hy
    go_wp2_with fail
    refine (unhide N3 _).mono ?_
    rintro e y3 ⟨rfl, hy⟩
    have hy' := hy.symm
    subst hy'
    clear hy
    go_wp2_with fail
    refine (unhide N5 _).mono ?_
    rintro e y5 ⟨rfl, hy⟩
    have hy' := hy.symm
    subst hy'
    clear hy
    go_wp2_with fail
    refine (unhide N6 _).mono ?_
    rintro e y6 ⟨rfl, hy⟩
    have hy' := hy.symm
    subst hy'
    clear hy
    go_wp2_with fail
    refine (unhide N7 _).mono ?_
    rintro e y7 ⟨rfl, hy⟩
    have hy' := hy.symm
    subst hy'
    clear hy
    go_wp2
    go_ret
    exact ⟨rfl, ((unhide KC).1.1.trans ((unhide KC).1.2.mono (unhide KC).1.1.size)).trans ((unhide KC).2.mono ((unhide KC).1.1.trans ((unhide KC).1.2.mono (unhide KC).1.1.size)).size)⟩
  | true =>
  cases b8 with
  | false =>
    obtain rfl : R = 3 := hR
    go_enter Tryz.func15, Tryz.ntmps15
    go_upto_region 1 with fail
    rw [← unhide HW1]
    go_wp2_with fail
    refine (unhide N0).mono ?_
    rintro e x1 ⟨rfl, k1⟩
    have d0 := (k1.cell (World.block_lt_of_cell? _ _ c0)).trans c0
    have d1 := (k1.cell (World.block_lt_of_cell? _ _ c1)).trans c1
    have d2 := (k1.cell (World.block_lt_of_cell? _ _ c2)).trans c2
    have d3 := (k1.cell (World.block_lt_of_cell? _ _ c3)).trans c3
    have d4 := (k1.cell (World.block_lt_of_cell? _ _ c4)).trans c4
    have d5 := (k1.cell (World.block_lt_of_cell? _ _ c5)).trans c5
    have d6 := (k1.cell (World.block_lt_of_cell? _ _ c6)).trans c6
    have d7 := (k1.cell (World.block_lt_of_cell? _ _ c7)).trans c7
    have d8 := (k1.cell (World.block_lt_of_cell? _ _ c8)).trans c8
    have d9 := (k1.cell (World.block_lt_of_cell? _ _ c9)).trans c9
    have d10 := (k1.cell (World.block_lt_of_cell? _ _ c10)).trans c10
    have KB := hide (And.intro (unhide HB1) k1)
    clear k1
    go_wp2_with fail
    refine (unhide N1 _).mono ?_
    rintro e x2 ⟨rfl, k2⟩
    have f0 := (k2.cell (World.block_lt_of_cell? _ _ d0)).trans d0
    have f1 := (k2.cell (World.block_lt_of_cell? _ _ d1)).trans d1
    have f2 := (k2.cell (World.block_lt_of_cell? _ _ d2)).trans d2
    have f3 := (k2.cell (World.block_lt_of_cell? _ _ d3)).trans d3
    have f4 := (k2.cell (World.block_lt_of_cell? _ _ d4)).trans d4
    have f5 := (k2.cell (World.block_lt_of_cell? _ _ d5)).trans d5
    have f6 := (k2.cell (World.block_lt_of_cell? _ _ d6)).trans d6
    have f7 := (k2.cell (World.block_lt_of_cell? _ _ d7)).trans d7
    have f8 := (k2.cell (World.block_lt_of_cell? _ _ d8)).trans d8
    have f9 := (k2.cell (World.block_lt_of_cell? _ _ d9)).trans d9
    have f10 := (k2.cell (World.block_lt_of_cell? _ _ d10)).trans d10
    have KC := hide (And.intro (unhide KB) k2)
    clear k2 d0 d1 d2 d3 d4 d5 d6 d7 d8 d9 d10 c0 c1 c2 c3 c4 c5 c6 c7 c8 c9 c10 KB
    go_wp2_with fail
    refine (unhide N2 _).mono ?_
    rintro e y2 ⟨rfl, hy⟩
    have hy' := hy.symm
    subst hy'
    clear hy
    go_wp2_with fail
    refine (unhide N3 _).mono ?_
    rintro e y3 ⟨rfl, hy⟩
    have hy' := hy.symm
    subst hy'
    clear hy
    go_wp2_with fail
    refine (unhide N5 _).mono ?_
    rintro e y5 ⟨rfl, hy⟩
    have hy' := hy.symm
    subst hy'
    clear hy
    go_wp2_with fail
    refine (unhide N6 _).mono ?_
    rintro e y6 ⟨rfl, hy⟩
    have hy' := hy.symm
    subst hy'
    clear hy
    go_wp2_with fail
    refine (unhide N7 _).mono ?_
    rintro e y7 ⟨rfl, hy⟩
    have hy' := hy.symm
    subst hy'
    clear hy
    go_wp2_with fail
    refine (unhide N8 _).mono ?_
    rintro e y8 ⟨rfl, hy⟩
    have hy' := hy.symm
    subst hy'
    clear hy
    go_wp2
    go_ret
    exact ⟨rfl, ((unhide KC).1.1.trans ((unhide KC).1.2.mono (unhide KC).1.1.size)).trans ((unhide KC).2.mono ((unhide KC).1.1.trans ((unhide KC).1.2.mono (unhide KC).1.1.size)).size)⟩
  | true =>
  cases b9 with
  | false =>
    obtain rfl : R = 3 := hR
    go_enter Tryz.func15, Tryz.ntmps15
    go_upto_region 1 with fail
    rw [← unhide HW1]
    go_wp2_with fail
    refine (unhide N0).mono ?_
    rintro e x1 ⟨rfl, k1⟩
    have d0 := (k1.cell (World.block_lt_of_cell? _ _ c0)).trans c0
    have d1 := (k1.cell (World.block_lt_of_cell? _ _ c1)).trans c1
    have d2 := (k1.cell (World.block_lt_of_cell? _ _ c2)).trans c2
    have d3 := (k1.cell (World.block_lt_of_cell? _ _ c3)).trans c3
    have d4 := (k1.cell (World.block_lt_of_cell? _ _ c4)).trans c4
    have d5 := (k1.cell (World.block_lt_of_cell? _ _ c5)).trans c5
    have d6 := (k1.cell (World.block_lt_of_cell? _ _ c6)).trans c6
    have d7 := (k1.cell (World.block_lt_of_cell? _ _ c7)).trans c7
    have d8 := (k1.cell (World.block_lt_of_cell? _ _ c8)).trans c8
    have d9 := (k1.cell (World.block_lt_of_cell? _ _ c9)).trans c9
    have d10 := (k1.cell (World.block_lt_of_cell? _ _ c10)).trans c10
    have KB := hide (And.intro (unhide HB1) k1)
    clear k1
    go_wp2_with fail
    refine (unhide N1 _).mono ?_
    rintro e x2 ⟨rfl, k2⟩
    have f0 := (k2.cell (World.block_lt_of_cell? _ _ d0)).trans d0
    have f1 := (k2.cell (World.block_lt_of_cell? _ _ d1)).trans d1
    have f2 := (k2.cell (World.block_lt_of_cell? _ _ d2)).trans d2
    have f3 := (k2.cell (World.block_lt_of_cell? _ _ d3)).trans d3
    have f4 := (k2.cell (World.block_lt_of_cell? _ _ d4)).trans d4
    have f5 := (k2.cell (World.block_lt_of_cell? _ _ d5)).trans d5
    have f6 := (k2.cell (World.block_lt_of_cell? _ _ d6)).trans d6
    have f7 := (k2.cell (World.block_lt_of_cell? _ _ d7)).trans d7
    have f8 := (k2.cell (World.block_lt_of_cell? _ _ d8)).trans d8
    have f9 := (k2.cell (World.block_lt_of_cell? _ _ d9)).trans d9
    have f10 := (k2.cell (World.block_lt_of_cell? _ _ d10)).trans d10
    have KC := hide (And.intro (unhide KB) k2)
    clear k2 d0 d1 d2 d3 d4 d5 d6 d7 d8 d9 d10 c0 c1 c2 c3 c4 c5 c6 c7 c8 c9 c10 KB
    go_wp2_with fail
    refine (unhide N2 _).mono ?_
    rintro e y2 ⟨rfl, hy⟩
    have hy' := hy.symm
    subst hy'
    clear hy
    go_wp2_with fail
    refine (unhide N3 _).mono ?_
    rintro e y3 ⟨rfl, hy⟩
    have hy' := hy.symm
    subst hy'
    clear hy
    go_wp2_with fail
    refine (unhide N5 _).mono ?_
    rintro e y5 ⟨rfl, hy⟩
    have hy' := hy.symm
    subst hy'
    clear hy
    go_wp2_with fail
    refine (unhide N6 _).mono ?_
    rintro e y6 ⟨rfl, hy⟩
    have hy' := hy.symm
    subst hy'
    clear hy
    go_wp2_with fail
    refine (unhide N7 _).mono ?_
    rintro e y7 ⟨rfl, hy⟩
    have hy' := hy.symm
    subst hy'
    clear hy
    go_wp2_with fail
    refine (unhide N8 _).mono ?_
    rintro e y8 ⟨rfl, hy⟩
    have hy' := hy.symm
    subst hy'
    clear hy
    go_wp2_with fail
    refine (unhide N9 _).mono ?_
    rintro e y9 ⟨rfl, hy⟩
    have hy' := hy.symm
    subst hy'
    clear hy
    go_wp2
    go_ret
    exact ⟨rfl, ((unhide KC).1.1.trans ((unhide KC).1.2.mono (unhide KC).1.1.size)).trans ((unhide KC).2.mono ((unhide KC).1.1.trans ((unhide KC).1.2.mono (unhide KC).1.1.size)).size)⟩
  | true =>
  by_cases hf : 20 < fs.length
  · have hR' : R = 2 := by rw [decide_eq_true hf] at hR; exact hR
    have tl : (20 : Int) < (fs.length : Int) := by omega
    clear hR hf
    subst hR'
    go_enter Tryz.func15, Tryz.ntmps15
    go_upto_region 1 with fail
    rw [← unhide HW1]
    go_wp2_with fail
    refine (unhide N0).mono ?_
    rintro e x1 ⟨rfl, k1⟩
    have d0 := (k1.cell (World.block_lt_of_cell? _ _ c0)).trans c0
    have d1 := (k1.cell (World.block_lt_of_cell? _ _ c1)).trans c1
    have d2 := (k1.cell (World.block_lt_of_cell? _ _ c2)).trans c2
    have d3 := (k1.cell (World.block_lt_of_cell? _ _ c3)).trans c3
    have d4 := (k1.cell (World.block_lt_of_cell? _ _ c4)).trans c4
    have d5 := (k1.cell (World.block_lt_of_cell? _ _ c5)).trans c5
    have d6 := (k1.cell (World.block_lt_of_cell? _ _ c6)).trans c6
    have d7 := (k1.cell (World.block_lt_of_cell? _ _ c7)).trans c7
    have d8 := (k1.cell (World.block_lt_of_cell? _ _ c8)).trans c8
    have d9 := (k1.cell (World.block_lt_of_cell? _ _ c9)).trans c9
    have d10 := (k1.cell (World.block_lt_of_cell? _ _ c10)).trans c10
    have KB := hide (And.intro (unhide HB1) k1)
    clear k1
    go_wp2_with fail
    refine (unhide N1 _).mono ?_
    rintro e x2 ⟨rfl, k2⟩
    have f0 := (k2.cell (World.block_lt_of_cell? _ _ d0)).trans d0
    have f1 := (k2.cell (World.block_lt_of_cell? _ _ d1)).trans d1
    have f2 := (k2.cell (World.block_lt_of_cell? _ _ d2)).trans d2
    have f3 := (k2.cell (World.block_lt_of_cell? _ _ d3)).trans d3
    have f4 := (k2.cell (World.block_lt_of_cell? _ _ d4)).trans d4
    have f5 := (k2.cell (World.block_lt_of_cell? _ _ d5)).trans d5
    have f6 := (k2.cell (World.block_lt_of_cell? _ _ d6)).trans d6
    have f7 := (k2.cell (World.block_lt_of_cell? _ _ d7)).trans d7
    have f8 := (k2.cell (World.block_lt_of_cell? _ _ d8)).trans d8
    have f9 := (k2.cell (World.block_lt_of_cell? _ _ d9)).trans d9
    have f10 := (k2.cell (World.block_lt_of_cell? _ _ d10)).trans d10
    have KC := hide (And.intro (unhide KB) k2)
    clear k2 d0 d1 d2 d3 d4 d5 d6 d7 d8 d9 d10 c0 c1 c2 c3 c4 c5 c6 c7 c8 c9 c10 KB
    go_wp2_with fail
    refine (unhide N2 _).mono ?_
    rintro e y2 ⟨rfl, hy⟩
    have hy' := hy.symm
    subst hy'
    clear hy
    go_wp2_with fail
    refine (unhide N3 _).mono ?_
    rintro e y3 ⟨rfl, hy⟩
    have hy' := hy.symm
    subst hy'
    clear hy
    go_wp2_with fail
    refine (unhide N5 _).mono ?_
    rintro e y5 ⟨rfl, hy⟩
    have hy' := hy.symm
    subst hy'
    clear hy
    go_wp2_with fail
    refine (unhide N6 _).mono ?_
    rintro e y6 ⟨rfl, hy⟩
    have hy' := hy.symm
    subst hy'
    clear hy
    go_wp2_with fail
    refine (unhide N7 _).mono ?_
    rintro e y7 ⟨rfl, hy⟩
    have hy' := hy.symm
    subst hy'
    clear hy
    go_wp2_with fail
    refine (unhide N8 _).mono ?_
    rintro e y8 ⟨rfl, hy⟩
    have hy' := hy.symm
    subst hy'
    clear hy
    go_wp2_with fail
    refine (unhide N9 _).mono ?_
    rintro e y9 ⟨rfl, hy⟩
    have hy' := hy.symm
    subst hy'
    clear hy
    go_wp2
    go_ret
    exact ⟨rfl, ((unhide KC).1.1.trans ((unhide KC).1.2.mono (unhide KC).1.1.size)).trans ((unhide KC).2.mono ((unhide KC).1.1.trans ((unhide KC).1.2.mono (unhide KC).1.1.size)).size)⟩
  · have hR' : R = se := by rw [decide_eq_false hf] at hR; exact hR
    have tl : ¬ (20 : Int) < (fs.length : Int) := by omega
    clear hR hf
    subst hR'
    go_enter Tryz.func15, Tryz.ntmps15
    go_upto_region 1 with fail
    rw [← unhide HW1]
    go_wp2_with fail
    refine (unhide N0).mono ?_
    rintro e x1 ⟨rfl, k1⟩
    have d0 := (k1.cell (World.block_lt_of_cell? _ _ c0)).trans c0
    have d1 := (k1.cell (World.block_lt_of_cell? _ _ c1)).trans c1
    have d2 := (k1.cell (World.block_lt_of_cell? _ _ c2)).trans c2
    have d3 := (k1.cell (World.block_lt_of_cell? _ _ c3)).trans c3
    have d4 := (k1.cell (World.block_lt_of_cell? _ _ c4)).trans c4
    have d5 := (k1.cell (World.block_lt_of_cell? _ _ c5)).trans c5
    have d6 := (k1.cell (World.block_lt_of_cell? _ _ c6)).trans c6
    have d7 := (k1.cell (World.block_lt_of_cell? _ _ c7)).trans c7
    have d8 := (k1.cell (World.block_lt_of_cell? _ _ c8)).trans c8
    have d9 := (k1.cell (World.block_lt_of_cell? _ _ c9)).trans c9
    have d10 := (k1.cell (World.block_lt_of_cell? _ _ c10)).trans c10
    have KB := hide (And.intro (unhide HB1) k1)
    clear k1
    go_wp2_with fail
    refine (unhide N1 _).mono ?_
    rintro e x2 ⟨rfl, k2⟩
    have f0 := (k2.cell (World.block_lt_of_cell? _ _ d0)).trans d0
    have f1 := (k2.cell (World.block_lt_of_cell? _ _ d1)).trans d1
    have f2 := (k2.cell (World.block_lt_of_cell? _ _ d2)).trans d2
    have f3 := (k2.cell (World.block_lt_of_cell? _ _ d3)).trans d3
    have f4 := (k2.cell (World.block_lt_of_cell? _ _ d4)).trans d4
    have f5 := (k2.cell (World.block_lt_of_cell? _ _ d5)).trans d5
    have f6 := (k2.cell (World.block_lt_of_cell? _ _ d6)).trans d6
    have f7 := (k2.cell (World.block_lt_of_cell? _ _ d7)).trans d7
    have f8 := (k2.cell (World.block_lt_of_cell? _ _ d8)).trans d8
    have f9 := (k2.cell (World.block_lt_of_cell? _ _ d9)).trans d9
    have f10 := (k2.cell (World.block_lt_of_cell? _ _ d10)).trans d10
    have KC := hide (And.intro (unhide KB) k2)
    clear k2 d0 d1 d2 d3 d4 d5 d6 d7 d8 d9 d10 c0 c1 c2 c3 c4 c5 c6 c7 c8 c9 c10 KB
    go_wp2_with fail
    refine (unhide N2 _).mono ?_
    rintro e y2 ⟨rfl, hy⟩
    have hy' := hy.symm
    subst hy'
    clear hy
    go_wp2_with fail
    refine (unhide N3 _).mono ?_
    rintro e y3 ⟨rfl, hy⟩
    have hy' := hy.symm
    subst hy'
    clear hy
    go_wp2_with fail
    refine (unhide N5 _).mono ?_
    rintro e y5 ⟨rfl, hy⟩
    have hy' := hy.symm
    subst hy'
    clear hy
    go_wp2_with fail
    refine (unhide N6 _).mono ?_
    rintro e y6 ⟨rfl, hy⟩
    have hy' := hy.symm
    subst hy'
    clear hy
    go_wp2_with fail
    refine (unhide N7 _).mono ?_
    rintro e y7 ⟨rfl, hy⟩
    have hy' := hy.symm
    subst hy'
    clear hy
    go_wp2_with fail
    refine (unhide N8 _).mono ?_
    rintro e y8 ⟨rfl, hy⟩
    have hy' := hy.symm
    subst hy'
    clear hy
    go_wp2_with fail
    refine (unhide N9 _).mono ?_
    rintro e y9 ⟨rfl, hy⟩
    have hy' := hy.symm
    subst hy'
    clear hy
    go_wp2
    go_ret
    exact ⟨rfl, ((unhide KC).1.1.trans ((unhide KC).1.2.mono (unhide KC).1.1.size)).trans ((unhide KC).2.mono ((unhide KC).1.1.trans ((unhide KC).1.2.mono (unhide KC).1.1.size)).size)⟩
end Go.Proofs.YtajkbkljonejnaaGreatDoor
namespace Go.Proofs.YtajkbkljonejnaaGreatDoor
open Go.RowKit
set_option linter.unusedVariables false
structure GX (ops : Array Oper) (B : Nat) (wb : World) (G : Nat → Value → World → Prop) (S : Nat → Bool) (f : Nat → Value) (w : World) : Prop where
  g : Below B wb w
  p : ∀ k, S k = true → G k (f k) w
theorem GX.val {ops : Array Oper} {B : Nat} {wb w w' : World} {G : Nat → Value → World → Prop} {S : Nat → Bool} {f : Nat → Value} (hm : ∀ k v w w', G k v w → Below w.heap.size w w' → G k v w') (hB : B ≤ w.heap.size) (h : GX ops B wb G S f w) {i : Nat} (v : Value) (hb : Below w.heap.size w w') (hg : G i v w') : GX ops B wb G (addD S i) (updD f i v) w' := by
  refine ⟨h.g.trans (hb.mono hB), fun k hk => ?_⟩
  unfold addD at hk
  unfold updD
  by_cases e : k = i
  · rw [if_pos e, e]; exact hg
  · rw [if_neg e] at hk ⊢; exact hm k _ _ _ (h.p k hk) hb
theorem wp_drawnG {P : Program} {ops : Array Oper} {Q : Exit → Act → World → Prop} {id : Nat} {a0 : Act} {w0 wb : World} {B : Nat} (hm : P.follows .mixedOrders = true)
    (N : Nat) (hN : a0.tmps.size = N) (ht : inOrder ops = true) (hd : apartD ops N = true) (G : Nat → Value → World → Prop) (hb : Below B wb w0)
    (hstep : StepsJ P ops (GX ops B wb G) a0 0 ops.toList)
    (hend : ∀ a w S, a.defers = a0.defers → a.tmps.size = N → (∀ t, offD ops t = true → a.tmps[t]? = a0.tmps[t]?) → (∀ k, k < ops.size → S k = true) → GX ops B wb G S (valD ops a) w → Q .normal a w) :
    (Code.region id ops true).wp P Q a0 w0 :=
  wp_drawnJ hm N hN ht hd _ ⟨hb.drew, fun _ h => absurd h Bool.false_ne_true⟩ hstep hend
end Go.Proofs.YtajkbkljonejnaaGreatDoor
