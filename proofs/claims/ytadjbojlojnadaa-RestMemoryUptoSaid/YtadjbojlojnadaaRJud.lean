/- Judge of the document's own. -/
import Derived.Test.YtadjbojlojnadaaJudX
import Derived.Deep.DeepCutAuto
namespace Go.Proofs.Ytadjbojlojnadaa
open Go.RowKit
set_option linter.unusedVariables false

end Go.Proofs.Ytadjbojlojnadaa
