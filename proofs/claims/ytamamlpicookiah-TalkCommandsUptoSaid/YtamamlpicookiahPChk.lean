/- How many names there are: the program's map. -/
import Derived.Test.YtamamlpicookiahLow
import Derived.Test.YtamamlpicookiahShP
import Derived.Maps.OwnSet
import Derived.Maps.OwnOps
import Derived.Maps.Views
import Derived.StringKeys
import Derived.Deep.RegionWith
namespace Go.Proofs.Ytamamlpicookiah
open Go.RowKit Go.WideMaps Go.Maps
set_option linter.unusedVariables false

theorem lawS : Keyed Try.prog 9 := string_keyed Try.underlying9
theorem zeroI (w : World) : (zeroValue 3).run Try.prog w = .ok (.int .i64 0) w := by kernel_rfl

/-- the names, as bytes -/
def namesL (l : List XApp) : List (List UInt8) := l.map (fun a => a.name.data.toList)
/-- is one of the first k there ahead of itself? -/
def dupTo (ns : List (List UInt8)) : Nat → Bool
  | 0 => false
  | k + 1 => dupTo ns k || (ns.take k).contains (ns.getD k [])

end Go.Proofs.Ytamamlpicookiah
