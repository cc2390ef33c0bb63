/- Judge of the document's own, where nothing is wrong. -/
import Derived.Test.YtadjbojlojnadaaJudX
import Derived.Deep.DeepCutAuto
import Derived.Deep.CutBlock
namespace Go.Proofs.Ytadjbojlojnadaa
open Go.RowKit
set_option linter.unusedVariables false

end Go.Proofs.Ytadjbojlojnadaa
