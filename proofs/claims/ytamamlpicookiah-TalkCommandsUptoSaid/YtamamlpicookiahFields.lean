/- Rows of fields: checkFields of the program. -/
import Derived.Test.YtamamlpicookiahCutTag
import Derived.Test.YtamamlpicookiahAppTag
import Derived.Deep.DeepCutAuto
import Derived.Deep.RegionWith
import Derived.Deep.DrawnRows
import Derived.Deep.AppendLies
namespace Go.Proofs.Ytamamlpicookiah
open Go.RowKit
set_option linter.unusedVariables false
attribute [local go_sem ↓] Go.wp_at_zero Go.wp_at_succ

/-- a slice's head over a row of fields that lies in memory -/
def FRow (W : World) (ao : Option Addr) (fs : List (Int × Int)) : Prop :=
  fs = [] ∨ ∃ b off, ao = some ⟨b, off, none⟩ ∧ b < W.heap.size ∧ ∀ i, i < fs.length → W.cell? ⟨b, off + i * 2, none⟩ = some (.int .i64 (fs.getD i (0, 0)).1) ∧ W.cell? ⟨b, off + i * 2 + 1, none⟩ = some (.int .i64 (fs.getD i (0, 0)).2)
theorem FRow.below {W W' : World} {ao : Option Addr} {fs : List (Int × Int)} (h : FRow W ao fs) (hb : Below W.heap.size W W') : FRow W' ao fs := by
  rcases h with h | ⟨b, off, rfl, hlt, hc⟩
  · exact .inl h
  · exact .inr ⟨b, off, rfl, Nat.lt_of_lt_of_le hlt hb.size, fun i hi => ⟨(hb.cell (p := ⟨b, off + i * 2, none⟩) hlt).trans (hc i hi).1, (hb.cell (p := ⟨b, off + i * 2 + 1, none⟩) hlt).trans (hc i hi).2⟩⟩

/-- is a field one? -/
def okF (f : Int × Int) : Bool := validB f.1 && (!madeB f.1.toNat && (decide (0 ≤ f.2) && decide (f.2 ≤ 255)))
/-- what is wrong with a row -/
def fieldsE (fs : List (Int × Int)) : Int := if fs.all okF = true then (if 100 < fs.length then 2 else 0) else 1
/-- the numbers of a row fit their kind -/
def FNums (fs : List (Int × Int)) : Prop := ∀ f ∈ fs, f.1 ≤ 9223372036854775807

/-- the first k are fields -/
def AllTo (fs : List (Int × Int)) (k : Nat) : Prop := (fs.take k).all okF = true

theorem all_take_succ (fs : List (Int × Int)) (k : Nat) (h : k < fs.length) : (fs.take (k + 1)).all okF = ((fs.take k).all okF && okF (fs.getD k (0, 0))) := by
  rw [List.take_succ_eq_append_getElem h, List.all_append]
  simp [List.getD_eq_getElem?_getD, List.getElem?_eq_getElem h]
theorem all_of_take_false (fs : List (Int × Int)) (k : Nat) (h : (fs.take k).all okF = false) : fs.all okF = false := by
  have e := List.take_append_drop k fs
  rw [← e, List.all_append, h, Bool.false_and]

end Go.Proofs.Ytamamlpicookiah
