/- clear: Answer, Insist, Judge. -/
import Derived.Test.YtadjbojlojnadaaClrK
import Derived.Deep.RegionWith
namespace Go.Proofs.Ytadjbojlojnadaa
open Go.RowKit Go.WideMaps Go.Maps
set_option linter.unusedVariables false
set_option maxRecDepth 100000

variable {w w' : World} {F : Nat → Prop} {b m1 m2 n k : Nat} {S : Clr} {qs : List Nat}
end Go.Proofs.Ytadjbojlojnadaa
