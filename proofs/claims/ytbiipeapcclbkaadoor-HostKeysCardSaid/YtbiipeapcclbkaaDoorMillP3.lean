/- The way back of the program. -/
import Derived.Test.YtbiipeapcclbkaaDoorMillP2
namespace Go.Proofs.YtbiipeapcclbkaaDoor
open Go.RowKit
set_option linter.unusedVariables false

theorem sub_words (x y : Nat) (hy : y < 4294967296) : ((x : Int) - (y : Int)) % 4294967296 = ((x + (4294967296 - y)) % 4294967296 : Nat) := by omega
theorem sub_words2 (x y : Nat) (z : Int) (hz : z = (y : Int)) : ((x : Int) - z % 4294967296) % 4294967296 = ((x + (4294967296 - y % 4294967296)) % 4294967296 : Nat) := by omega

end Go.Proofs.YtbiipeapcclbkaaDoor
