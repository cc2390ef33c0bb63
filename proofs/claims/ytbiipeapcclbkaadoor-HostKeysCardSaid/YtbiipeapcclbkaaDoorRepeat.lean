/- The library's strings.Repeat and strings.Builder at this program: the table of numbers, and that the library's texts lie there. -/
import Derived.Shelf.Strings.Builder1
import Derived.Shelf.Strings.Builder2
import Derived.Shelf.Strings.BuilderF
import Derived.Shelf.Strings.Prefix
import Derived.Shelf.Bits.Mul64
import Derived.Shelf.Strings.Repeat
import Derived.Test.YtbiipeapcclbkaaDoorProg
namespace Go.Proofs
open Go.Shelf
end Go.Proofs
