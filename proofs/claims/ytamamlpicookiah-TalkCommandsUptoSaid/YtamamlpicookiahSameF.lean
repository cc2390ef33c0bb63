/- same of two rows of fields: are they alike? -/
import Derived.Test.YtamamlpicookiahRPrintF
namespace Go.Proofs.Ytamamlpicookiah
open Go.RowKit
set_option linter.unusedVariables false

theorem take_eq_succ (a b : List (Int × Int)) (k : Nat) (ha : k < a.length) (hb : k < b.length) (h : a.take k = b.take k) : a.take (k + 1) = b.take (k + 1) ↔ a.getD k (0, 0) = b.getD k (0, 0) := by
  have ea := List.take_succ_eq_append_getElem ha
  have eb := List.take_succ_eq_append_getElem hb
  have ga : a.getD k (0, 0) = a[k] := by simp [List.getD_eq_getElem?_getD, List.getElem?_eq_getElem ha]
  have gb : b.getD k (0, 0) = b[k] := by simp [List.getD_eq_getElem?_getD, List.getElem?_eq_getElem hb]
  rw [ea, eb, h, ga, gb]
  simp only [List.append_cancel_left_eq, List.cons.injEq, and_true]

end Go.Proofs.Ytamamlpicookiah
