/- The program's end: the piece that is out; Take. -/
import Derived.Test.YthchicolifkpiaaDoorEndK
import Derived.Deep.RegionLaw
namespace Go.Proofs.YthchicolifkpiaaDoor
open Go.RowKit
set_option linter.unusedVariables false

set_option maxRecDepth 100000 in
set_option maxHeartbeats 2000000 in
theorem piece_any (w : World) (b g n c : Nat) (s : ByteArray) (k : Nat) (turn pause aw : Int) (owed : Bool) (pv : Value) (lost : Bool) (gv : Value)
    (h : EndAt w b (.slice (some ⟨g, 0, none⟩) n c) ((32 * k : Nat) : Int) turn pause aw owed pv lost gv) (hn : 0 < n) (hc : w.cell? ⟨g, 0, none⟩ = some (.string s)) (hk : 32 * k ≤ s.size) (hs : s.size ≤ 4096) :
    Calls Tryd.prog 30 #[.pointer (some ⟨b, 0, none⟩)] w fun e w' => e = .returned (blk turn 0 (pcAt s k).2 true (pcAt s k).1) ∧ Below w.heap.size w w' := by
  obtain ⟨e1, e2⟩ := piece_cut s k hk
  have hlt : b < w.heap.size := World.block_lt_of_cell? w ⟨b, 1, none⟩ ((cell_of_row _ _ 1 _ _ _ h).trans rfl)
  have hltg : g < w.heap.size := World.block_lt_of_cell? w ⟨g, 0, none⟩ hc
  have hsl : ∀ wx, (Instr.slice 9 (.string s) (some (.int .i64 ((32 * k : Nat) : Int))) none none).run Tryd.prog wx = .ok (.string (s.extract (32 * k) s.size)) wx := fun wx =>
    by
    have hx := run_slice_string_from_if (P := Tryd.prog) wx 9 s .i64 ((32 * k : Nat) : Int) Tryd.underlying9
    rw [if_pos ⟨by omega, by omega⟩, Int.toNat_natCast] at hx
    exact hx
  have hrz : (s.extract (32 * k) s.size).size ≤ 4096 := by rw [ByteArray.size_extract]; omega
  generalize s.extract (32 * k) s.size = rest at *
  generalize (pcAt s k).1 = body at *
  generalize (pcAt s k).2 = more at *
  generalize 32 * k = a at *
  have c0 : w.cell? ⟨b, 0, none⟩ = some (.slice (some ⟨g, 0, none⟩) n c) := (cell_of_row _ _ 0 _ _ _ h).trans rfl
  have c1 : w.cell? ⟨b, 1, none⟩ = some (.int .i64 (a : Int)) := (cell_of_row _ _ 1 _ _ _ h).trans rfl
  have c2 : w.cell? ⟨b, 2, none⟩ = some (.int .i64 turn) := (cell_of_row _ _ 2 _ _ _ h).trans rfl
  have hn' : (0 : Int) < (n : Int) := by omega
  have E1 := hide e1; have E2 := hide e2
  clear e1 e2 h hk
  by_cases hq : 32 < rest.size
  · have hq1 : (32 : Int) < (rest.size : Int) := by omega
    have hs2 : ∀ wx, (Instr.slice 9 (.string rest) none (some (.int .i64 32)) none).run Tryd.prog wx = .ok (.string (rest.extract 0 32)) wx := fun wx =>
      by
      have hx := run_slice_string_to_if (P := Tryd.prog) wx 9 rest .i64 32 Tryd.underlying9
      rw [if_pos ⟨by omega, by omega⟩] at hx
      exact hx
    have E3 := hide (show rest.extract 0 32 = body by have := unhide E1; rw [Nat.min_eq_right (by omega)] at this; exact this)
    have E4 := hide (show more = true by have := unhide E2; rw [decide_eq_true hq] at this; exact this.symm)
    clear hq E1 E2
    go_enter Tryd.func30, Tryd.ntmps30
    go_wp2_with fail
    go_quiet (fail)
    go_wp2_with fail
    go_region
    go_wp2
    refine bodyPost_ret (v := blk turn 0 true true (rest.extract 0 32)) (by simp [results, Tryd.results30, go_sem]) rfl ⟨by rw [unhide E3, unhide E4], ?_⟩
    exact (((((belowDrewN ((Below.refl _ w).alloc (Nat.le_refl _) _) _).setCell (Nat.le_refl _) _).setCell (Nat.le_refl _) _).setCell (Nat.le_refl _) _).setCell (Nat.le_refl _) _).setCell (Nat.le_refl _) _
  · have hq1 : ¬ (32 : Int) < (rest.size : Int) := by omega
    have hs2 : ∀ wx, (Instr.slice 9 (.string rest) none (some (.int .i64 (rest.size : Int))) none).run Tryd.prog wx = .ok (.string (rest.extract 0 rest.size)) wx := fun wx =>
      by
      have hx := run_slice_string_to_if (P := Tryd.prog) wx 9 rest .i64 (rest.size : Int) Tryd.underlying9
      rw [if_pos ⟨by omega, by omega⟩, Int.toNat_natCast] at hx
      exact hx
    have E3 := hide (show rest.extract 0 rest.size = body by have := unhide E1; rw [Nat.min_eq_left (by omega)] at this; exact this)
    have E4 := hide (show more = false by have := unhide E2; rw [decide_eq_false hq] at this; exact this.symm)
    clear hq E1 E2
    go_enter Tryd.func30, Tryd.ntmps30
    go_wp2_with fail
    go_quiet (fail)
    go_wp2_with fail
    go_region
    go_wp2
    refine bodyPost_ret (v := blk turn 0 false true (rest.extract 0 rest.size)) (by simp [results, Tryd.results30, go_sem]; exact hq1) rfl ⟨by rw [unhide E3, unhide E4], ?_⟩
    exact (((((belowDrewN ((Below.refl _ w).alloc (Nat.le_refl _) _) _).setCell (Nat.le_refl _) _).setCell (Nat.le_refl _) _).setCell (Nat.le_refl _) _).setCell (Nat.le_refl _) _).setCell (Nat.le_refl _) _
end Go.Proofs.YthchicolifkpiaaDoor
