/- What is wrong with applications: Check of the program. -/
import Derived.Test.YtamamlpicookiahPChk
import Derived.Lib.Strings
namespace Go.Proofs.Ytamamlpicookiah
open Go.RowKit
set_option linter.unusedVariables false

theorem anyP_take_succ {α : Type} (l : List α) (p : α → Bool) (k : Nat) (y : α) (h : l[k]? = some y) : (l.take (k + 1)).any p = ((l.take k).any p || p y) := by
  obtain ⟨hk, rfl⟩ := List.getElem?_eq_some_iff.1 h
  rw [List.take_succ_eq_append_getElem hk, List.any_append]
  simp
theorem anyP_of_take {α : Type} (l : List α) (p : α → Bool) (k : Nat) (h : (l.take k).any p = true) : l.any p = true := by
  have e := List.take_append_drop k l
  rw [← e, List.any_append, h, Bool.true_or]

def misB (x : XApp) : Bool := decide (x.name.size < 5 ∨ 16 < x.name.size ∨ x.label.size = 0 ∨ 64 < x.label.size)
def prioB (x : XApp) : Bool := decide (x.prio < 0 ∨ 15 < x.prio)
def knoB (x : XKnown) : Bool := decide (x.name.size = 0 ∨ 16 < x.name.size)
theorem empty_iff (s : ByteArray) : s.toList.isEmpty = decide (s.size = 0) := by
  rw [Lib.toList_data]
  have e : s.size = s.data.toList.length := by simp
  rw [e]
  generalize s.data.toList = m
  cases m <;> simp




/-- what is wrong with applications -/
def appsE (l : List XApp) : Int := if 20 < l.length then 2 else bif l.any misB then 1 else bif l.any prioB then 3 else bif dupTo (namesL l) l.length then 6 else 0

end Go.Proofs.Ytamamlpicookiah
