/- own, isDo of the program's talk. -/
import Derived.Test.YtolicaaifhfhcaaM00
import Derived.Test.YtolicaaifhfhcaaM42
import Derived.Laws.StructEq
import Derived.Test.YtolicaaifhfhcaaM40
import Derived.Deep.QuietTactic
import Derived.BigQuiet
import Derived.Deep.DeepCutAuto
import Derived.Deep.CutBlock
namespace Go.Proofs.Ytolicaaifhfhcaa
open Go.RowKit
set_option linter.unusedVariables false

def inT (n a b : Int) : Bool := decide (a ≤ n ∧ n ≤ b)
theorem inT_true {n a b : Int} : inT n a b = true ↔ a ≤ n ∧ n ≤ b := by unfold inT; simp
theorem inT_false {n a b : Int} (h : ¬ (a ≤ n ∧ n ≤ b)) : inT n a b = false := decide_eq_false h
theorem ret_boolQ {a b : Bool} (h : a = b) : Ending.returned (.bool a) = .returned (.bool b) := by rw [h]
def zeroD : XDeal := ⟨0, 0, 0, false, 0, 0, ⟨#[]⟩⟩
/-- a command with nothing but what belongs to it -/
def ownC (c : XCommand) : XCommand :=
  if c.dO = 2 then ⟨c.dO, c.name, ⟨#[]⟩, 0, zeroD, ⟨#[]⟩, ⟨#[]⟩, ⟨#[]⟩⟩
  else if c.dO = 4 then ⟨c.dO, ⟨#[]⟩, c.digits, 0, zeroD, ⟨#[]⟩, ⟨#[]⟩, ⟨#[]⟩⟩
  else if c.dO = 5 then ⟨c.dO, ⟨#[]⟩, ⟨#[]⟩, c.want, c.deal, c.extra, ⟨#[]⟩, ⟨#[]⟩⟩
  else if c.dO = 6 then ⟨c.dO, ⟨#[]⟩, ⟨#[]⟩, c.want, zeroD, ⟨#[]⟩, c.answer, ⟨#[]⟩⟩
  else if c.dO = 7 then ⟨c.dO, ⟨#[]⟩, ⟨#[]⟩, 0, zeroD, ⟨#[]⟩, ⟨#[]⟩, c.orders⟩
  else ⟨c.dO, ⟨#[]⟩, ⟨#[]⟩, 0, zeroD, ⟨#[]⟩, ⟨#[]⟩, ⟨#[]⟩⟩
theorem toList_injQ {x y : ByteArray} (h : x.toList = y.toList) : x = y := by
  rw [Lib.toList_data, Lib.toList_data] at h
  apply ByteArray.ext
  exact Array.toList_inj.1 h
instance : DecidableEq XDeal := fun a b => by
  obtain ⟨a1, a2, a3, a4, a5, a6, a7⟩ := a
  obtain ⟨b1, b2, b3, b4, b5, b6, b7⟩ := b
  exact decidable_of_iff (a1 = b1 ∧ a2 = b2 ∧ a3 = b3 ∧ a4 = b4 ∧ a5 = b5 ∧ a6 = b6 ∧ a7 = b7) (by simp)
instance : DecidableEq XCommand := fun a b => by
  obtain ⟨a1, a2, a3, a4, a5, a6, a7, a8⟩ := a
  obtain ⟨b1, b2, b3, b4, b5, b6, b7, b8⟩ := b
  exact decidable_of_iff (a1 = b1 ∧ a2 = b2 ∧ a3 = b3 ∧ a4 = b4 ∧ a5 = b5 ∧ a6 = b6 ∧ a7 = b7 ∧ a8 = b8) (by simp)
end Go.Proofs.Ytolicaaifhfhcaa
namespace Go.Proofs.Ytolicaaifhfhcaa
open Go.RowKit
set_option linter.unusedVariables false

theorem dupTo_mono (ns : List (List UInt8)) (k n : Nat) (h : dupTo ns k = true) (hkn : k ≤ n) : dupTo ns n = true := by
  induction n with
  | zero => rw [show k = 0 by omega] at h; exact h
  | succ n ih =>
    by_cases hk : k = n + 1
    · rw [← hk]; exact h
    · rw [dupTo, ih (by omega), Bool.true_or]

end Go.Proofs.Ytolicaaifhfhcaa
