/- Ways, Applies, GoesWell of the document's own. -/
import Derived.Test.YtadjbojlojnadaaWalkP
import Derived.Deep.RegionHeld3
namespace Go.Proofs.Ytadjbojlojnadaa
open Go.RowKit
set_option linter.unusedVariables false


end Go.Proofs.Ytadjbojlojnadaa
