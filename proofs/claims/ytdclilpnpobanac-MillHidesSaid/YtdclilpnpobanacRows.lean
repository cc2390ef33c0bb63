/-
  No cell of these rows narrows 'for every input' (looked for: loops, veiled, ifaces, maps, wideKeys, modest, calm, conditions, laid).
  DERIVED. THE GIVEN ROWS OF THIS SEAT. 6 by the template 'for every input the law returns true; each argument reads behind the call as it read before'; 0 by the template 'total and deterministic' (their statements: YtdclilpnpobanacTotals.lean).
  GIVEN WITH THE SEED: the statements are not yours to turn. If you find one false, say at which input.
  Laid BY PROGRAM, IN A SANDBOX (cutbox-rows.mjs): the forced cells as the released guide's own fill.sh prints them over the translation 7479e3372ccbf9cc… (all of the seat's roots in one cut). By AI agents, Wed Nov 11 2026. No macro, syntax, notation, axiom, sorry.
-/
import Derived.Test.YtdclilpnpobanacChecked
import GoSem.Claim
import GoSem.ClaimJoined
import GoSem.ClaimMapViews
import Derived.JoinedTies
import Derived.KernelRfl
namespace Go.Proofs.Ytdclilpnpobanac
/- THE CELL 'sum', in the pinned program and in every row, IS THE sha256 OF THE DUMP (.gsa) THAT YtdclilpnpobanacProg.lean LOADS. Nothing in Lean hashes anything: it is a label: what it is worth is what the hold of that sum in a sandbox is worth. -/
noncomputable def Try.pinned : Pinned := { name := "ytdclilpnpobanac", sum := "7479e3372ccbf9cc8042b749e4818bd9eac26e9e4d0dbeaa87b253f96421afce", checked := Try.checked }
namespace Rows
def none {H : Type} : Left H := { results := [], args := [] }

/-- 'pursehouselaw.MillTurns': WHATEVER THE INPUT: true; the input reads as it did. -/
def millTurnsSpec : ChangeSpec := { name := "millTurns", fn := fun _ => fun
  | [d1, d2] => { results := [.lit (.bool true)], args := [d1, d2] }
  | _ => none }
def millTurnsRow : OpenClaim := { program := "ytdclilpnpobanac", sum := "7479e3372ccbf9cc8042b749e4818bd9eac26e9e4d0dbeaa87b253f96421afce", func := "pursehouse/pursehouselaw.MillTurns", spec := "millTurns", unfollowed := true, recurses := true, apart := false }
def MillTurnsSaid : Prop := millTurnsRow.holds Try.pinned (OpenSpec.ofChange millTurnsSpec)

/-- ITS FALSE NEIGHBOUR: 'it returns false'. Refute it at one input. -/
def millTurnsWrong : ChangeSpec := { name := "millTurns", fn := fun _ => fun
  | [d1, d2] => { results := [.lit (.bool false)], args := [d1, d2] }
  | _ => none }
def MillTurnsWrongFalsely : Prop := millTurnsRow.holds Try.pinned (OpenSpec.ofChange millTurnsWrong)

/-- 'pursehouselaw.MillBack': WHATEVER THE INPUT: true; the input reads as it did. -/
def millBackSpec : ChangeSpec := { name := "millBack", fn := fun _ => fun
  | [d1, d2, d3] => { results := [.lit (.bool true)], args := [d1, d2, d3] }
  | _ => none }
def millBackRow : OpenClaim := { program := "ytdclilpnpobanac", sum := "7479e3372ccbf9cc8042b749e4818bd9eac26e9e4d0dbeaa87b253f96421afce", func := "pursehouse/pursehouselaw.MillBack", spec := "millBack", unfollowed := true, recurses := true, apart := false }
def MillBackSaid : Prop := millBackRow.holds Try.pinned (OpenSpec.ofChange millBackSpec)

/-- ITS FALSE NEIGHBOUR: 'it returns false'. Refute it at one input. -/
def millBackWrong : ChangeSpec := { name := "millBack", fn := fun _ => fun
  | [d1, d2, d3] => { results := [.lit (.bool false)], args := [d1, d2, d3] }
  | _ => none }
def MillBackWrongFalsely : Prop := millBackRow.holds Try.pinned (OpenSpec.ofChange millBackWrong)

/-- 'pursehouselaw.MillFolds': WHATEVER THE INPUT: true; the input reads as it did. -/
def millFoldsSpec : ChangeSpec := { name := "millFolds", fn := fun _ => fun
  | [d1, d2] => { results := [.lit (.bool true)], args := [d1, d2] }
  | _ => none }
def millFoldsRow : OpenClaim := { program := "ytdclilpnpobanac", sum := "7479e3372ccbf9cc8042b749e4818bd9eac26e9e4d0dbeaa87b253f96421afce", func := "pursehouse/pursehouselaw.MillFolds", spec := "millFolds", inPlace := ["internal/abi.NoEscape"], unfollowed := true, recurses := true, apart := false }
def MillFoldsSaid : Prop := millFoldsRow.holds Try.pinned (OpenSpec.ofChange millFoldsSpec)

/-- ITS FALSE NEIGHBOUR: 'it returns false'. Refute it at one input. -/
def millFoldsWrong : ChangeSpec := { name := "millFolds", fn := fun _ => fun
  | [d1, d2] => { results := [.lit (.bool false)], args := [d1, d2] }
  | _ => none }
def MillFoldsWrongFalsely : Prop := millFoldsRow.holds Try.pinned (OpenSpec.ofChange millFoldsWrong)

/-- 'pursehouselaw.MillRows': WHATEVER THE INPUT: true; the input reads as it did. -/
def millRowsSpec : ChangeSpec := { name := "millRows", fn := fun _ => fun
  | [d1, d2] => { results := [.lit (.bool true)], args := [d1, d2] }
  | _ => none }
def millRowsRow : OpenClaim := { program := "ytdclilpnpobanac", sum := "7479e3372ccbf9cc8042b749e4818bd9eac26e9e4d0dbeaa87b253f96421afce", func := "pursehouse/pursehouselaw.MillRows", spec := "millRows", inPlace := ["internal/abi.NoEscape"], apart := false }
def MillRowsSaid : Prop := millRowsRow.holds Try.pinned (OpenSpec.ofChange millRowsSpec)

/-- ITS FALSE NEIGHBOUR: 'it returns false'. Refute it at one input. -/
def millRowsWrong : ChangeSpec := { name := "millRows", fn := fun _ => fun
  | [d1, d2] => { results := [.lit (.bool false)], args := [d1, d2] }
  | _ => none }
def MillRowsWrongFalsely : Prop := millRowsRow.holds Try.pinned (OpenSpec.ofChange millRowsWrong)

/-- 'pursehouselaw.MillSeals': WHATEVER THE INPUT: true; the input reads as it did. -/
def millSealsSpec : ChangeSpec := { name := "millSeals", fn := fun _ => fun
  | [d1, d2, d3, d4] => { results := [.lit (.bool true)], args := [d1, d2, d3, d4] }
  | _ => none }
def millSealsRow : OpenClaim := { program := "ytdclilpnpobanac", sum := "7479e3372ccbf9cc8042b749e4818bd9eac26e9e4d0dbeaa87b253f96421afce", func := "pursehouse/pursehouselaw.MillSeals", spec := "millSeals", inPlace := ["internal/abi.NoEscape"], unfollowed := true, recurses := true, apart := false }
def MillSealsSaid : Prop := millSealsRow.holds Try.pinned (OpenSpec.ofChange millSealsSpec)

/-- ITS FALSE NEIGHBOUR: 'it returns false'. Refute it at one input. -/
def millSealsWrong : ChangeSpec := { name := "millSeals", fn := fun _ => fun
  | [d1, d2, d3, d4] => { results := [.lit (.bool false)], args := [d1, d2, d3, d4] }
  | _ => none }
def MillSealsWrongFalsely : Prop := millSealsRow.holds Try.pinned (OpenSpec.ofChange millSealsWrong)

/-- 'pursehouselaw.MillHides': WHATEVER THE INPUT: true; the input reads as it did. -/
def millHidesSpec : ChangeSpec := { name := "millHides", fn := fun _ => fun
  | [d1, d2, d3] => { results := [.lit (.bool true)], args := [d1, d2, d3] }
  | _ => none }
def millHidesRow : OpenClaim := { program := "ytdclilpnpobanac", sum := "7479e3372ccbf9cc8042b749e4818bd9eac26e9e4d0dbeaa87b253f96421afce", func := "pursehouse/pursehouselaw.MillHides", spec := "millHides", inPlace := ["internal/abi.NoEscape", "internal/bytealg.MakeNoZero"], apart := false }
def MillHidesSaid : Prop := millHidesRow.holds Try.pinned (OpenSpec.ofChange millHidesSpec)

/-- ITS FALSE NEIGHBOUR: 'it returns false'. Refute it at one input. -/
def millHidesWrong : ChangeSpec := { name := "millHides", fn := fun _ => fun
  | [d1, d2, d3] => { results := [.lit (.bool false)], args := [d1, d2, d3] }
  | _ => none }
def MillHidesWrongFalsely : Prop := millHidesRow.holds Try.pinned (OpenSpec.ofChange millHidesWrong)

/- THE SECOND FORM. 'bulk': how many values and letters a reading holds, each counted each time it is reached (what is shared counts as often as it is met; a slice's spare places count too). A statement '..UptoSaid' is the law's where the arguments, and the package variables that the reading takes, are together of bulk at most 1048576: NARROWER than '..Said'. Prove '..Said' where nothing that the law and all that it calls make is longer than what came in: it says more and counts as full. Else prove '..UptoSaid'. A law counts once. -/
mutual
def uptoBulk {H : Type} : DataW H → Nat
  | .lit (.string bytes) => bytes.length + 1
  | .lit _ => 1
  | .nil => 1
  | .ptr d => uptoBulk d + 1
  | .slice elems spare => uptoBulkAll elems + uptoBulkAll spare + 1
  | .agg parts => uptoBulkAll parts + 1
  | .iface _ d => uptoBulk d + 1
  | .map entries => uptoBulkEntries entries + 1
  | .held _ => 1
def uptoBulkAll {H : Type} : List (DataW H) → Nat
  | [] => 0
  | d :: r => uptoBulk d + uptoBulkAll r
def uptoBulkEntries {H : Type} : List (Lit × DataW H) → Nat
  | [] => 0
  | x :: r => uptoBulkEntry x + uptoBulkEntries r
def uptoBulkEntry {H : Type} : Lit × DataW H → Nat
  | (.string bytes, d) => bytes.length + uptoBulk d + 1
  | (_, d) => uptoBulk d + 1
 end
def uptoSmall : (H : Type) → List (DataW H) → Bool := fun _ ds => decide (uptoBulkAll ds ≤ 1048576)
def OpenSpec.upto (s : _root_.Go.ChangeSpec) : _root_.Go.OpenSpec := { _root_.Go.OpenSpec.ofChange s with cond := some uptoSmall }

/-- 'pursehouselaw.MillTurns', WHERE WHAT IT READS IS OF BULK AT MOST 1048576: true; the input reads as it did. -/
def millTurnsUptoRow : OpenClaim := { program := "ytdclilpnpobanac", sum := "7479e3372ccbf9cc8042b749e4818bd9eac26e9e4d0dbeaa87b253f96421afce", func := "pursehouse/pursehouselaw.MillTurns", spec := "millTurns", unfollowed := true, recurses := true, apart := false, narrowed := true }
def MillTurnsUptoSaid : Prop := millTurnsUptoRow.holds Try.pinned (OpenSpec.upto millTurnsSpec)

/-- 'pursehouselaw.MillBack', WHERE WHAT IT READS IS OF BULK AT MOST 1048576: true; the input reads as it did. -/
def millBackUptoRow : OpenClaim := { program := "ytdclilpnpobanac", sum := "7479e3372ccbf9cc8042b749e4818bd9eac26e9e4d0dbeaa87b253f96421afce", func := "pursehouse/pursehouselaw.MillBack", spec := "millBack", unfollowed := true, recurses := true, apart := false, narrowed := true }
def MillBackUptoSaid : Prop := millBackUptoRow.holds Try.pinned (OpenSpec.upto millBackSpec)

/-- 'pursehouselaw.MillFolds', WHERE WHAT IT READS IS OF BULK AT MOST 1048576: true; the input reads as it did. -/
def millFoldsUptoRow : OpenClaim := { program := "ytdclilpnpobanac", sum := "7479e3372ccbf9cc8042b749e4818bd9eac26e9e4d0dbeaa87b253f96421afce", func := "pursehouse/pursehouselaw.MillFolds", spec := "millFolds", inPlace := ["internal/abi.NoEscape"], unfollowed := true, recurses := true, apart := false, narrowed := true }
def MillFoldsUptoSaid : Prop := millFoldsUptoRow.holds Try.pinned (OpenSpec.upto millFoldsSpec)

/-- 'pursehouselaw.MillRows', WHERE WHAT IT READS IS OF BULK AT MOST 1048576: true; the input reads as it did. -/
def millRowsUptoRow : OpenClaim := { program := "ytdclilpnpobanac", sum := "7479e3372ccbf9cc8042b749e4818bd9eac26e9e4d0dbeaa87b253f96421afce", func := "pursehouse/pursehouselaw.MillRows", spec := "millRows", inPlace := ["internal/abi.NoEscape"], apart := false, narrowed := true }
def MillRowsUptoSaid : Prop := millRowsUptoRow.holds Try.pinned (OpenSpec.upto millRowsSpec)

/-- 'pursehouselaw.MillSeals', WHERE WHAT IT READS IS OF BULK AT MOST 1048576: true; the input reads as it did. -/
def millSealsUptoRow : OpenClaim := { program := "ytdclilpnpobanac", sum := "7479e3372ccbf9cc8042b749e4818bd9eac26e9e4d0dbeaa87b253f96421afce", func := "pursehouse/pursehouselaw.MillSeals", spec := "millSeals", inPlace := ["internal/abi.NoEscape"], unfollowed := true, recurses := true, apart := false, narrowed := true }
def MillSealsUptoSaid : Prop := millSealsUptoRow.holds Try.pinned (OpenSpec.upto millSealsSpec)

/-- 'pursehouselaw.MillHides', WHERE WHAT IT READS IS OF BULK AT MOST 1048576: true; the input reads as it did. -/
def millHidesUptoRow : OpenClaim := { program := "ytdclilpnpobanac", sum := "7479e3372ccbf9cc8042b749e4818bd9eac26e9e4d0dbeaa87b253f96421afce", func := "pursehouse/pursehouselaw.MillHides", spec := "millHides", inPlace := ["internal/abi.NoEscape", "internal/bytealg.MakeNoZero"], apart := false, narrowed := true }
def MillHidesUptoSaid : Prop := millHidesUptoRow.holds Try.pinned (OpenSpec.upto millHidesSpec)

end Rows
end Go.Proofs.Ytdclilpnpobanac
