/- clear: turn, newPayment. -/
import Derived.Test.YtdameincehiieaaClrE
namespace Go.Proofs.Ytdameincehiieaa
open Go.RowKit
set_option linter.unusedVariables false
set_option maxRecDepth 100000

theorem PayB.frozen {w : World} {q : Nat} {p : Pst} {c : Cse} (h : PayB w q p c) (i : Nat) : w.frozen? ⟨q, i, none⟩ = false := by unfold PayB at h; simp [World.frozen?, h]
theorem PayB.turned {w : World} {q : Nat} {p : Pst} {c : Cse} (h : PayB w q p c) (s d : Int) : PayB ((w.setCell ⟨q, 3, none⟩ (.int .i64 s)).setCell ⟨q, 4, none⟩ (.int .i64 d)) q p ⟨s, d, c.disp, c.paid⟩ := by
  unfold PayB at *
  simp [World.setCell, Array.getElem?_modify, h]
theorem PayB.disputed {w : World} {q : Nat} {p : Pst} {c : Cse} (h : PayB w q p c) (x : Int) : PayB (w.setCell ⟨q, 5, none⟩ (.int .i64 x)) q p ⟨c.st, c.since, x, c.paid⟩ := by
  unfold PayB at *
  simp [World.setCell, Array.getElem?_modify, h]
theorem PayB.paidTo {w : World} {q : Nat} {p : Pst} {c : Cse} (h : PayB w q p c) (x : Int) : PayB (w.setCell ⟨q, 6, none⟩ (.int .i64 x)) q p ⟨c.st, c.since, c.disp, x⟩ := by
  unfold PayB at *
  simp [World.setCell, Array.getElem?_modify, h]
theorem turn_any (b q m1 m2 : Nat) (D : Dys) (t st : Int) (p : Pst) (c : Cse) (w : World) (h : ClrB w b D t m1 m2) (hP : PayB w q p c) (hqb : q ≠ b) :
    Calls Try.prog 30 #[.pointer (some ⟨b, 0, none⟩), .pointer (some ⟨q, 0, none⟩), .int .i64 st] w fun e w' => e = .returned (.tuple #[]) ∧ PayB w' q p ⟨st, t, c.disp, c.paid⟩ ∧ Tnd w w' q := by
  obtain ⟨_, _, _, _, c4, _, _⟩ := h.cells
  obtain ⟨_, _, _, d3, d4, _, _⟩ := hP.cells
  have f3 := hP.frozen 3
  have f4 := hP.frozen 4
  have R1 := hide (hP.turned st t)
  have R2 := hide ((Tnd.set w q 3 (.int .i64 st)).trans (Tnd.set _ q 4 (.int .i64 t)))
  clear h hP
  go_enter Try.func30, Try.ntmps30
  go_wp2
  go_end0
  exact ⟨rfl, unhide R1, unhide R2⟩
end Go.Proofs.Ytdameincehiieaa
