/-
  DERIVED. GIVEN WITH THE SEED: THE CARDS: each row of YtmdcaljccegiiaaGreatDoorRows.lean that lists a variable, with what it lists TIED to the program's text (the seventh form; the later family's looks); each row that meets fmt, with fmt's text TOLD by the authors' own Lean function (tested against real Go, not proved from fmt's source: count such statements apart). THE CARD IS WHAT COUNTS. Prove the row's statement (the work); the ties are given (YtmdcaljccegiiaaGreatDoorTie.lean); close each card by the builder's one call (the guide's Derived/Test/ToyasCard.lean, 'card_holds'). Laid BY PROGRAM, IN A SANDBOX (cutbox-door.mjs). By AI agents, Wed Nov 11 2026. No macro, syntax, notation, axiom, sorry.
-/
import Derived.Test.YtmdcaljccegiiaaGreatDoorRows
import GoSem.ClaimSeven
namespace Go.Proofs.YtmdcaljccegiiaaGreatDoor
namespace Rows

/-- THE TIED CARD OF 'pursehouselaw.CertKeys'. -/
def certKeysCard : Claim7 := { stood := { row := certKeysRow, standIns := [], harness := (true, "f4e9004796cb20f2124b354c530ab1fe66ba9b5a2492aeb983d37b465d1a895f"), looks := false }, kinds := [], alts := [], laidByText := true, laidKinds := [.data, .pinned], laidTests := true, laidLooks := .later }
def CertKeysCardSaid : Prop := Claim7.holds Tryz.pinned (.plain (OpenSpec.ofChange certKeysSpec)) certKeysCard

/-- THE SECOND FORM's CARD OF 'pursehouselaw.CertKeys'. -/
def certKeysUptoCard : Claim7 := { stood := { row := certKeysUptoRow, standIns := [], harness := (true, "f4e9004796cb20f2124b354c530ab1fe66ba9b5a2492aeb983d37b465d1a895f"), looks := false }, kinds := [], alts := [], laidByText := true, laidKinds := [.data, .pinned], laidTests := true, laidLooks := .later }
def CertKeysUptoCardSaid : Prop := Claim7.holds Tryz.pinned (.plain (OpenSpec.upto certKeysSpec)) certKeysUptoCard
end Rows
end Go.Proofs.YtmdcaljccegiiaaGreatDoor
