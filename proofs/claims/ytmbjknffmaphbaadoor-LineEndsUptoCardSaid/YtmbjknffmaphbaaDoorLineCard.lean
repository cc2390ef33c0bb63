/- What the statements on lines share: a block that comes in, opened; the table, as the program's text lays it. -/
import Derived.Test.YtmbjknffmaphbaaDoorRows
import Derived.Test.YtmbjknffmaphbaaDoorTie
import Derived.Test.YtmbjknffmaphbaaDoorUnframe2
import Derived.WalkKit
import Derived.ProofKit
import Derived.OpenShut
import Derived.ShutString
import Derived.ChangeOld
import Derived.Below
import Derived.LaidMore
import Derived.Lib.LaidTab
import Derived.Lib.SmallJoins
import Derived.Stop.Joined
import Derived.SevenTiedAt
namespace Go.Proofs.YtmbjknffmaphbaaDoor
open Go.ChangeShapes Go.WideShapes Go.ChangeAt Go.RowKit Go.Joins
open Go.ChangeMaps (open_string shut_string)
set_option linter.unusedVariables false

theorem ownLine : ownKnob Tryd.prog.godebug = none := by kernel_rfl
theorem laidOutLine : laidOutB Tryd.prog = true := by kernel_rfl
theorem cellsBlk : Tryd.prog.cellsOf 23 = 5 := by kernel_rfl
theorem cellsInt : Tryd.prog.cellsOf 3 = 1 := by kernel_rfl
theorem cellsBool : Tryd.prog.cellsOf 4 = 1 := by kernel_rfl
theorem cellsString : Tryd.prog.cellsOf 9 = 1 := by kernel_rfl

theorem open_blk {H : Type} {enc : TypeId × Value → H} {W : World} {base b0 : Nat} {spare : Nat → Bool} {held : Bool} {r : Reach} {v : Value} {d : DataW H} {p : List MemPlace}
    (hv : Value.okWide Tryd.prog W r b0 23 v) (h : DataW.Trod enc Tryd.prog W base spare held 23 v d p) :
    ∃ (t n : Int) (m hh : Bool) (b : ByteArray), v = blk t n m hh b ∧ (Lit.int .i64 t).wf = true ∧ (Lit.int .i64 n).wf = true ∧ b.size ≤ maxLen := by
  obtain ⟨cs, rfl, hsz⟩ := okWide_struct Tryd.underlying23 hv
  rw [cellsBlk] at hsz
  obtain ⟨fuel, hf⟩ := h
  obtain ⟨xs, k, _, _, _, hlen, hq⟩ := DataW.trod_struct Tryd.underlying23 hf
  obtain ⟨l⟩ := cs
  match l, hsz with
  | [c0, c1, c2, c3, c4], _ =>
    match xs, hlen with
    | [y0, y1, y2, y3, y4], _ =>
      have h0 : DataW.trod enc Tryd.prog W base spare held k 3 [c0] = some y0 := by simpa [Value.cells, cellsInt] using hq 0 _ rfl
      have h1 : DataW.trod enc Tryd.prog W base spare held k 3 [c1] = some y1 := by simpa [Value.cells, cellsInt] using hq 1 _ rfl
      have h2 : DataW.trod enc Tryd.prog W base spare held k 4 [c2] = some y2 := by simpa [Value.cells, cellsBool] using hq 2 _ rfl
      have h3 : DataW.trod enc Tryd.prog W base spare held k 4 [c3] = some y3 := by simpa [Value.cells, cellsBool] using hq 3 _ rfl
      have h4 : DataW.trod enc Tryd.prog W base spare held k 9 [c4] = some y4 := by simpa [Value.cells, cellsString] using hq 4 _ rfl
      obtain ⟨t, e0, _, w0⟩ := DataW.trod_int Tryd.underlying3 h0
      obtain ⟨n, e1, _, w1⟩ := DataW.trod_int Tryd.underlying3 h1
      obtain ⟨m, e2, _⟩ := DataW.trod_bool Tryd.underlying4 h2
      obtain ⟨hh, e3, _⟩ := DataW.trod_bool Tryd.underlying4 h3
      obtain ⟨b, e4, _, w4⟩ := DataW.trod_string Tryd.underlying9 h4
      simp at e0 e1 e2 e3 e4
      subst e0 e1 e2 e3 e4
      exact ⟨t, n, m, hh, b, rfl, w0, w1, w4⟩

/-- the table's name, as the row has it -/
def nameSteps : String := Rows.lineFramesRow.named.headD default
theorem gSteps : Tryd.prog.globalNamed nameSteps = some 0 := by kernel_rfl
theorem tSteps : (Tryd.prog.globals[0]?).map (·.type) = some 81 := by kernel_rfl
theorem cellsU16 : Tryd.prog.cellsOf 63 = 1 := by kernel_rfl
theorem cellsTab : Tryd.prog.cellsOf 81 = 16 := by kernel_rfl
def laidLine : List (String × DataW Unit) := [(nameSteps, Rows.laid_pursehouse_line_steps)]

/-- what the condition gives the walks -/
theorem tab_of_laid {W : World} (h : laidMetH Tryd.prog laidLine W) : Tab W := by
  rw [MakeChecks.laidMetH_plain _ _ _ (by kernel_rfl)] at h
  have hT : Lib.TabIs Tryd.prog W nameSteps .u16 (stepsT.map (fun n : Nat => (n : Int))) :=
    Lib.tabIs_of_head gSteps tSteps Tryd.underlying81 Tryd.underlying63 cellsU16 cellsTab (rest := []) h
  intro i hi
  have := hT.cell gSteps i (by simpa [stepsT] using hi)
  rw [this]
  have e : ∀ j : Fin 16, (stepsT.map (fun n : Nat => (n : Int))).getD j.val 0 = ((stepsT.getD j.val 0 : Nat) : Int) := by decide
  rw [e ⟨i, hi⟩]
theorem tab_block {W : World} (h : Tab W) : 0 < W.heap.size := World.block_lt_of_cell? _ _ (h 0 (by decide))

theorem door_met (os : Os) (args : Array Value) : laidMetH Tryd.prog laidLine ((World.doorLaid Tryd.prog 14 os).forCall (fun _ _ => 0) ⟨#[], args, []⟩).memory :=
  laidMetH_of_parts3 (fuel := 8) (laidMet_of_run' 8 (by kernel_rfl) (by kernel_rfl)) (by kernel_rfl) (by kernel_rfl)
end Go.Proofs.YtmbjknffmaphbaaDoor
