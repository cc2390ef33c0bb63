/- The big numbers themselves: Add into one of its own; Bit, Int64. -/
import Derived.Test.YtajkbkljonejnaaGreatDoorM26
namespace Go.Proofs.YtajkbkljonejnaaGreatDoor
open Go.RowKit
set_option linter.unusedVariables false
end Go.Proofs.YtajkbkljonejnaaGreatDoor
