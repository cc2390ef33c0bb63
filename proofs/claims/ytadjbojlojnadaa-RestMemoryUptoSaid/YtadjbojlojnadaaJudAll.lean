/- Judge of both, one contract each; what lies in memory, block by block. -/
import Derived.Test.YtadjbojlojnadaaJudY
import Derived.Test.YtadjbojlojnadaaRJud
import Derived.Test.YtadjbojlojnadaaRJudY
namespace Go.Proofs.Ytadjbojlojnadaa
open Go.RowKit
set_option linter.unusedVariables false

theorem judge_any (r : XRisk) (s : XSeen) (w : World) (hr : Rowstring w r.blacko r.black) :
    Calls Try.prog 8 #[valRisk r, valSeen s] w fun e w' => e = .returned (.tuple #[.int .i64 (judgeA r s), .int .i64 (judgeE r s)]) ∧ Below w.heap.size w w' := by
  by_cases h : judgeE r s = 0
  · rw [judgeA, if_pos h, h]
    exact judge_yes r s w hr h
  · rw [judgeA, if_neg h]
    exact judge_no r s w h

/-- what a shop knows of a card, in a block of its own -/
def SAt (w : World) (g : Nat) (s : XSeen) : Prop := w.heap[g]? = some (.cells #[.string s.id, .int .i64 s.amount, .int .i64 s.other, .int .i64 s.count, .int .i64 s.last, .int .i64 s.draw] 45)
/-- how a shop guards itself, likewise -/
def RAt (w : World) (g : Nat) (r : XRisk) : Prop := w.heap[g]? = some (.cells #[.int .i64 r.floor, .int .i64 r.frm, .int .i64 r.share, .int .i64 r.most, .int .i64 r.lower, .int .i64 r.upper, .slice r.blacko r.black.length r.blackc] 30)
theorem block_ltJ {w : World} {g : Nat} {o : Obj} (h : w.heap[g]? = some o) : g < w.heap.size := by
  rcases Nat.lt_or_ge g w.heap.size with h1 | h1
  · exact h1
  · rw [Array.getElem?_eq_none h1] at h
    cases h
theorem SAt.below {w w' : World} {g : Nat} {s : XSeen} (h : SAt w g s) (hb : Below w.heap.size w w') : SAt w' g s := (hb.block g (block_ltJ h)).trans h
theorem RAt.below {w w' : World} {g : Nat} {r : XRisk} (h : RAt w g r) (hb : Below w.heap.size w w') : RAt w' g r := (hb.block g (block_ltJ h)).trans h
theorem SAt.cells {w : World} {g : Nat} {s : XSeen} (h : SAt w g s) : w.cell? ⟨g, 0, none⟩ = some (.string s.id) ∧ w.cell? ⟨g, 1, none⟩ = some (.int .i64 s.amount) ∧ w.cell? ⟨g, 2, none⟩ = some (.int .i64 s.other) ∧ w.cell? ⟨g, 3, none⟩ = some (.int .i64 s.count) ∧ w.cell? ⟨g, 4, none⟩ = some (.int .i64 s.last) ∧ w.cell? ⟨g, 5, none⟩ = some (.int .i64 s.draw) :=
  ⟨cell_of_row _ _ _ _ _ _ h, cell_of_row _ _ _ _ _ _ h, cell_of_row _ _ _ _ _ _ h, cell_of_row _ _ _ _ _ _ h, cell_of_row _ _ _ _ _ _ h, cell_of_row _ _ _ _ _ _ h⟩
theorem RAt.cells {w : World} {g : Nat} {r : XRisk} (h : RAt w g r) : w.cell? ⟨g, 0, none⟩ = some (.int .i64 r.floor) ∧ w.cell? ⟨g, 1, none⟩ = some (.int .i64 r.frm) ∧ w.cell? ⟨g, 2, none⟩ = some (.int .i64 r.share) ∧ w.cell? ⟨g, 3, none⟩ = some (.int .i64 r.most) ∧ w.cell? ⟨g, 4, none⟩ = some (.int .i64 r.lower) ∧ w.cell? ⟨g, 5, none⟩ = some (.int .i64 r.upper) ∧ w.cell? ⟨g, 6, none⟩ = some (.slice r.blacko r.black.length r.blackc) :=
  ⟨cell_of_row _ _ _ _ _ _ h, cell_of_row _ _ _ _ _ _ h, cell_of_row _ _ _ _ _ _ h, cell_of_row _ _ _ _ _ _ h, cell_of_row _ _ _ _ _ _ h, cell_of_row _ _ _ _ _ _ h, cell_of_row _ _ _ _ _ _ h⟩
theorem SAt.thaw {w : World} {g : Nat} {s : XSeen} (h : SAt w g s) (j : Nat) : w.frozen? ⟨g, j, none⟩ = false := frozen_of_row w g j _ _ h
theorem SAt.amount {w : World} {g : Nat} {s : XSeen} (h : SAt w g s) (a : Int) : SAt (w.setCell ⟨g, 1, none⟩ (.int .i64 a)) g { s with amount := a } := by
  unfold SAt at *
  simp [World.setCell, Array.getElem?_modify, h]
theorem SAt.draw {w : World} {g : Nat} {s : XSeen} (h : SAt w g s) (a : Int) : SAt (w.setCell ⟨g, 5, none⟩ (.int .i64 a)) g { s with draw := a } := by
  unfold SAt at *
  simp [World.setCell, Array.getElem?_modify, h]
theorem RAt.set {w : World} {g k j : Nat} {r : XRisk} (h : RAt w g r) (hk : g ≠ k) (v : Value) : RAt (w.setCell ⟨k, j, none⟩ v) g r := (Below.heap_setCell _ _ _ _ hk).trans h
theorem jboxes_at (r : XRisk) (s : XSeen) (w : World) : RAt (jboxes r s w) w.heap.size r ∧ SAt (jboxes r s w) (w.heap.size + 1) s := by
  have hb : Below (w.alloc (Obj.cells #[.int .i64 r.floor, .int .i64 r.frm, .int .i64 r.share, .int .i64 r.most, .int .i64 r.lower, .int .i64 r.upper, .slice r.blacko r.black.length r.blackc] 30)).heap.size _ (jboxes r s w) := (Below.refl _ _).alloc (Nat.le_refl _) _
  refine ⟨RAt.below (heap_alloc_new w _) hb, ?_⟩
  have := heap_alloc_new (w.alloc (Obj.cells #[.int .i64 r.floor, .int .i64 r.frm, .int .i64 r.share, .int .i64 r.most, .int .i64 r.lower, .int .i64 r.upper, .slice r.blacko r.black.length r.blackc] 30)) (Obj.cells #[.string s.id, .int .i64 s.amount, .int .i64 s.other, .int .i64 s.count, .int .i64 s.last, .int .i64 s.draw] 45)
  simpa [SAt, jboxes] using this
end Go.Proofs.Ytadjbojlojnadaa
