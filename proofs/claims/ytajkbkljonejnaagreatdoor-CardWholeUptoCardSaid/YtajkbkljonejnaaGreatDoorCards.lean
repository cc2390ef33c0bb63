/-
  DERIVED. GIVEN WITH THE SEED: THE CARDS: each row of YtajkbkljonejnaaGreatDoorRows.lean that lists a variable, with what it lists TIED to the program's text (the seventh form; the later family's looks); each row that meets fmt, with fmt's text TOLD by the authors' own Lean function (tested against real Go, not proved from fmt's source: count such statements apart). THE CARD IS WHAT COUNTS. Prove the row's statement (the work); the ties are given (YtajkbkljonejnaaGreatDoorTie.lean); close each card by the builder's one call (the guide's Derived/Test/ToyasCard.lean, 'card_holds'). Laid BY PROGRAM, IN A SANDBOX (cutbox-door.mjs). By AI agents, Wed Nov 11 2026. No macro, syntax, notation, axiom, sorry.
-/
import Derived.Test.YtajkbkljonejnaaGreatDoorRows
import GoSem.ClaimSeven
namespace Go.Proofs.YtajkbkljonejnaaGreatDoor
namespace Rows

/-- THE TIED CARD OF 'pursehouselaw.CardWhole'. -/
def cardWholeCard : Claim7 := { stood := { row := cardWholeRow, standIns := [], harness := (true, "bed7b973da564f4a520a68b56395061e86cdd9583d652a4c63fd3234511a2f66"), looks := false }, kinds := [], alts := [], laidByText := true, laidKinds := [.data, .pinned], laidTests := true, laidLooks := .later }
def CardWholeCardSaid : Prop := Claim7.holds Tryz.pinned (.plain (OpenSpec.ofChange cardWholeSpec)) cardWholeCard

/-- THE SECOND FORM's CARD OF 'pursehouselaw.CardWhole'. -/
def cardWholeUptoCard : Claim7 := { stood := { row := cardWholeUptoRow, standIns := [], harness := (true, "bed7b973da564f4a520a68b56395061e86cdd9583d652a4c63fd3234511a2f66"), looks := false }, kinds := [], alts := [], laidByText := true, laidKinds := [.data, .pinned], laidTests := true, laidLooks := .later }
def CardWholeUptoCardSaid : Prop := Claim7.holds Tryz.pinned (.plain (OpenSpec.upto cardWholeSpec)) cardWholeUptoCard
end Rows
end Go.Proofs.YtajkbkljonejnaaGreatDoor
