/- A world in which the listed variables hold what the program's text lays, for the witness; what they hold, out of the row's condition. -/
import Derived.Test.YtkmmgeoialdmlaaDoorWireL
import Derived.WideWitness
namespace Go.Proofs.YtkmmgeoialdmlaaDoor
open Go.RowKit Go.Lib
set_option linter.unusedVariables false
set_option maxRecDepth 100000

def flatD : DataW Unit → List Value
  | .lit (.int k z) => [.int k z]
  | .lit (.bool b) => [.bool b]
  | .lit (.string l) => [.string ⟨l.toArray⟩]
  | _ => []
def flatD1 : DataW Unit → List Value
  | .agg l => l.flatMap flatD
  | d => flatD d
def flatD2 : DataW Unit → List Value
  | .agg l => l.flatMap flatD1
  | d => flatD d
def errCells : DataW Unit → List Value
  | .iface _ (.ptr d) => flatD1 d
  | _ => []
noncomputable def laidWorldOf (os : Os) : World :=
  let w0 := World.holding Tryd.prog os ⟨#[], #[], []⟩
  let n := w0.heap.size
  let put (h : Array Obj) (g : Nat) (cs : List Value) : Array Obj := h.modify g fun
    | .cells _ t frozen => .cells cs.toArray t frozen
    | o => o
  let h0 := put w0.heap 0 (flatD2 Rows.laid_pursehouse_wire_forms)
  let h1 := put h0 1 [.iface 143 (.pointer (some ⟨n, 0, none⟩))]
  let h2 := put h1 2 [.iface 143 (.pointer (some ⟨n + 1, 0, none⟩))]
  let h3 := put h2 3 (flatD2 Rows.laid_internal_strconv_uint64pow10)
  let h5 := put h3 5 (flatD2 Rows.laid_unicode_utf8_first)
  let h6 := put h5 6 (flatD2 Rows.laid_unicode_utf8_acceptRanges)
  let h7 := put h6 7 (flatD2 Rows.laid_math_bits_deBruijn32tab)
  let h8 := put h7 8 (flatD2 Rows.laid_math_bits_deBruijn64tab)
  { w0 with heap := (h8.push (.cells (errCells Rows.laid_strconv_ErrSyntax).toArray 145 (0, 0))).push (.cells (errCells Rows.laid_strconv_ErrRange).toArray 145 (0, 0)) }
end Go.Proofs.YtkmmgeoialdmlaaDoor
