/-
  DERIVED. GIVEN WITH THE SEED: THE CARDS: each row of YthchicolifkpiaaDoorRows.lean that lists a variable, with what it lists TIED to the program's text (the seventh form; the later family's looks); each row that meets fmt, with fmt's text TOLD by the authors' own Lean function (tested against real Go, not proved from fmt's source: count such statements apart). THE CARD IS WHAT COUNTS. Prove the row's statement (the work); the ties are given (YthchicolifkpiaaDoorTie.lean); close each card by the builder's one call (the guide's Derived/Test/ToyasCard.lean, 'card_holds'). Laid BY PROGRAM, IN A SANDBOX (cutbox-door.mjs). By AI agents, Wed Nov 11 2026. No macro, syntax, notation, axiom, sorry.
-/
import Derived.Test.YthchicolifkpiaaDoorRows
import GoSem.ClaimSeven
namespace Go.Proofs.YthchicolifkpiaaDoor
namespace Rows

/-- THE TIED CARD OF 'pursehouselaw.LineEnds'. -/
def lineEndsCard : Claim7 := { stood := { row := lineEndsRow, standIns := [], harness := (true, "5c1fe44b4c70fa58dcc83060efbe1c0cc81e3d743a5323036de1b021bcb9639a"), looks := false }, kinds := [], alts := [], laidByText := true, laidKinds := [.data], laidTests := true, laidLooks := .later }
def LineEndsCardSaid : Prop := Claim7.holds Tryd.pinned (.plain (OpenSpec.ofChange lineEndsSpec)) lineEndsCard

/-- THE TIED CARD OF 'pursehouselaw.LineLoses'. -/
def lineLosesCard : Claim7 := { stood := { row := lineLosesRow, standIns := [], harness := (true, "5c1fe44b4c70fa58dcc83060efbe1c0cc81e3d743a5323036de1b021bcb9639a"), looks := false }, kinds := [], alts := [], laidByText := true, laidKinds := [.data], laidTests := true, laidLooks := .later }
def LineLosesCardSaid : Prop := Claim7.holds Tryd.pinned (.plain (OpenSpec.ofChange lineLosesSpec)) lineLosesCard

/-- THE SECOND FORM's CARD OF 'pursehouselaw.LineEnds'. -/
def lineEndsUptoCard : Claim7 := { stood := { row := lineEndsUptoRow, standIns := [], harness := (true, "5c1fe44b4c70fa58dcc83060efbe1c0cc81e3d743a5323036de1b021bcb9639a"), looks := false }, kinds := [], alts := [], laidByText := true, laidKinds := [.data], laidTests := true, laidLooks := .later }
def LineEndsUptoCardSaid : Prop := Claim7.holds Tryd.pinned (.plain (OpenSpec.upto lineEndsSpec)) lineEndsUptoCard

/-- THE SECOND FORM's CARD OF 'pursehouselaw.LineLoses'. -/
def lineLosesUptoCard : Claim7 := { stood := { row := lineLosesUptoRow, standIns := [], harness := (true, "5c1fe44b4c70fa58dcc83060efbe1c0cc81e3d743a5323036de1b021bcb9639a"), looks := false }, kinds := [], alts := [], laidByText := true, laidKinds := [.data], laidTests := true, laidLooks := .later }
def LineLosesUptoCardSaid : Prop := Claim7.holds Tryd.pinned (.plain (OpenSpec.upto lineLosesSpec)) lineLosesUptoCard
end Rows
end Go.Proofs.YthchicolifkpiaaDoor
