/-
  DERIVED. GIVEN WITH THE SEED: THE CARDS: each row of YtmbjknffmaphbaeDoorRows.lean that lists a variable, with what it lists TIED to the program's text (the seventh form; the later family's looks); each row that meets fmt, with fmt's text TOLD by the authors' own Lean function (tested against real Go, not proved from fmt's source: count such statements apart). THE CARD IS WHAT COUNTS. Prove the row's statement (the work); the ties are given (YtmbjknffmaphbaeDoorTie.lean); close each card by the builder's one call (the guide's Derived/Test/ToyasCard.lean, 'card_holds'). Laid BY PROGRAM, IN A SANDBOX (cutbox-door.mjs). By AI agents, Wed Nov 11 2026. No macro, syntax, notation, axiom, sorry.
-/
import Derived.Test.YtmbjknffmaphbaeDoorRows
import GoSem.ClaimSeven
namespace Go.Proofs.YtmbjknffmaphbaeDoor
namespace Rows

/-- THE TIED CARD OF 'pursehouselaw.PickShows'. -/
def pickShowsCard : Claim7 := { stood := { row := pickShowsRow, standIns := [], harness := (true, "3998b3016bff675d977243d17a928dca8203bf53b8558f54375b1c8eec4f45bc"), looks := false }, kinds := [], alts := [], laidByText := true, laidKinds := [.data, .pinned], laidTests := true, laidLooks := .later }
def PickShowsCardSaid : Prop := Claim7.holds Tryd.pinned (.plain (OpenSpec.ofChange pickShowsSpec)) pickShowsCard

/-- THE SECOND FORM's CARD OF 'pursehouselaw.PickShows'. -/
def pickShowsUptoCard : Claim7 := { stood := { row := pickShowsUptoRow, standIns := [], harness := (true, "3998b3016bff675d977243d17a928dca8203bf53b8558f54375b1c8eec4f45bc"), looks := false }, kinds := [], alts := [], laidByText := true, laidKinds := [.data, .pinned], laidTests := true, laidLooks := .later }
def PickShowsUptoCardSaid : Prop := Claim7.holds Tryd.pinned (.plain (OpenSpec.upto pickShowsSpec)) pickShowsUptoCard
end Rows
end Go.Proofs.YtmbjknffmaphbaeDoor
