/- Turn and Back of the program. -/
import Derived.Test.YtbiipeapcclbkaaDoorMillP4
namespace Go.Proofs.YtbiipeapcclbkaaDoor
open Go.RowKit
set_option linter.unusedVariables false

theorem len_ne (s : ByteArray) (h : s.size ≠ 16) : ((s.size : Int) != 16) = true := by rw [bne_iff_ne]; omega
theorem len_eq (s : ByteArray) (h : s.size = 16) : ((s.size : Int) != 16) = false := by rw [bne_eq_false_iff_eq]; omega

/-- is it a key and a block? -/
def both16 (k s : ByteArray) : Bool := decide (k.size = 16 ∧ s.size = 16)
def turnE (k s : ByteArray) : Int := if k.size = 16 ∧ s.size = 16 then 0 else 1
def turnT (k s : ByteArray) : ByteArray := if k.size = 16 ∧ s.size = 16 then turnS k s else ⟨#[]⟩
def backT (k s : ByteArray) : ByteArray := if k.size = 16 ∧ s.size = 16 then backS k s else ⟨#[]⟩
end Go.Proofs.YtbiipeapcclbkaaDoor
