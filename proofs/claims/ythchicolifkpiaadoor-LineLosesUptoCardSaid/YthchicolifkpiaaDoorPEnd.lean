/- The program's end, as it lies in memory; Left, Tick. -/
import Derived.Test.YthchicolifkpiaaDoorRTick
namespace Go.Proofs.YthchicolifkpiaaDoor
open Go.RowKit
set_option linter.unusedVariables false

/-- an end's block: texts, arrived, turn, pause; awaited, owed, part, lost, got -/
def EndAt (w : World) (b : Nat) (tv : Value) (arr turn pause aw : Int) (owed : Bool) (pv : Value) (lost : Bool) (gv : Value) : Prop :=
  w.heap[b]? = some (.cells #[tv, .int .i64 arr, .int .i64 turn, .int .i64 pause, .int .i64 aw, .bool owed, pv, .bool lost, gv] 57)
theorem set_row {w : World} {g j : Nat} {cs : Array Value} {e : TypeId} {fr : Nat × Nat} {v : Value} (h : w.heap[g]? = some (.cells cs e fr)) : (w.setCell ⟨g, j, none⟩ v).heap[g]? = some (.cells (cs.setIfInBounds j v) e fr) := by
  simp [World.setCell, Array.getElem?_modify, h]

theorem left_any (w : World) (b : Nat) (ta : Option Addr) (tn tc : Nat) (arr turn pause aw : Int) (owed : Bool) (pv : Value) (lost : Bool) (gv : Value) (h : EndAt w b (.slice ta tn tc) arr turn pause aw owed pv lost gv) :
    Calls Tryd.prog 18 #[.pointer (some ⟨b, 0, none⟩)] w fun e w' => e = .returned (.int .i64 (tn : Int)) ∧ w' = w := by
  have c0 : w.cell? ⟨b, 0, none⟩ = some (.slice ta tn tc) := (cell_of_row _ _ 0 _ _ _ h).trans rfl
  clear h
  go_enter Tryd.func18, Tryd.ntmps18
  go_wp2
  go_ret
  exact ⟨rfl, rfl⟩

def tickP (pause : Int) : Int := if 0 < pause then pause - 1 else pause
theorem tick_any (w : World) (b : Nat) (tv : Value) (arr turn pause aw : Int) (owed : Bool) (pv : Value) (lost : Bool) (gv : Value) (h : EndAt w b tv arr turn pause aw owed pv lost gv) (h0 : 0 ≤ pause) (h4 : pause ≤ 4) :
    Calls Tryd.prog 11 #[.pointer (some ⟨b, 0, none⟩)] w fun e w' => e = .returned (.tuple #[]) ∧ EndAt w' b tv arr turn (tickP pause) aw owed pv lost gv ∧ (w' = w ∨ w' = w.setCell ⟨b, 3, none⟩ (.int .i64 (pause - 1))) := by
  have c3 : w.cell? ⟨b, 3, none⟩ = some (.int .i64 pause) := (cell_of_row _ _ 3 _ _ _ h).trans rfl
  have f3 : w.frozen? ⟨b, 3, none⟩ = false := frozen_of_row _ _ 3 _ _ h
  have H := hide h
  clear h
  by_cases hp : 0 < pause
  · have HP := hide (show tickP pause = pause - 1 from if_pos hp)
    go_enter Tryd.func11, Tryd.ntmps11
    go_wp2
    go_end0
    refine ⟨rfl, ?_, .inr rfl⟩
    rw [unhide HP]
    exact (set_row (unhide H)).trans rfl
  · have HP := hide (show tickP pause = pause from if_neg hp)
    go_enter Tryd.func11, Tryd.ntmps11
    go_wp2
    go_end0
    refine ⟨rfl, ?_, .inl rfl⟩
    rw [unhide HP]
    exact unhide H

theorem got_any (w : World) (b : Nat) (tv : Value) (arr turn pause aw : Int) (owed : Bool) (pv : Value) (lost : Bool) (ga : Option Addr) (gn gc : Nat) (h : EndAt w b tv arr turn pause aw owed pv lost (.slice ga gn gc)) :
    Calls Tryd.prog 17 #[.pointer (some ⟨b, 0, none⟩)] w fun e w' => e = .returned (.slice ga gn gc) ∧ EndAt w' b tv arr turn pause aw owed pv lost (.slice none 0 0) ∧ w' = w.setCell ⟨b, 8, none⟩ (.slice none 0 0) := by
  have c8 : w.cell? ⟨b, 8, none⟩ = some (.slice ga gn gc) := (cell_of_row _ _ 8 _ _ _ h).trans rfl
  have f8 : w.frozen? ⟨b, 8, none⟩ = false := frozen_of_row _ _ 8 _ _ h
  have H := hide h
  clear h
  go_enter Tryd.func17, Tryd.ntmps17
  go_wp2
  go_ret
  exact ⟨rfl, (set_row (unhide H)).trans rfl, rfl⟩

theorem isOut_any (w : World) (b : Nat) (ta : Option Addr) (tn tc : Nat) (arr turn pause aw : Int) (owed : Bool) (pv : Value) (lost : Bool) (gv : Value) (h : EndAt w b (.slice ta tn tc) arr turn pause aw owed pv lost gv) :
    Calls Tryd.prog 26 #[.pointer (some ⟨b, 0, none⟩)] w fun e w' => e = .returned (.bool (decide (0 < tn))) ∧ w' = w := by
  have c0 : w.cell? ⟨b, 0, none⟩ = some (.slice ta tn tc) := (cell_of_row _ _ 0 _ _ _ h).trans rfl
  clear h
  by_cases hn : 0 < tn
  · rw [decide_eq_true hn]
    go_enter Tryd.func26, Tryd.ntmps26
    go_wp2
    go_ret
    exact ⟨rfl, rfl⟩
  · rw [decide_eq_false hn]
    go_enter Tryd.func26, Tryd.ntmps26
    go_wp2
    go_ret
    exact ⟨rfl, rfl⟩
end Go.Proofs.YthchicolifkpiaaDoor
