/-
  DERIVED. GIVEN WITH THE SEED: THE CARDS: each row of YtckkhpegimkefaaGreatDoorRows.lean that lists a variable, with what it lists TIED to the program's text (the seventh form; the later family's looks); each row that meets fmt, with fmt's text TOLD by the authors' own Lean function (tested against real Go, not proved from fmt's source: count such statements apart). THE CARD IS WHAT COUNTS. Prove the row's statement (the work); the ties are given (YtckkhpegimkefaaGreatDoorTie.lean); close each card by the builder's one call (the guide's Derived/Test/ToyasCard.lean, 'card_holds'). Laid BY PROGRAM, IN A SANDBOX (cutbox-door.mjs). By AI agents, Wed Nov 11 2026. No macro, syntax, notation, axiom, sorry.
-/
import Derived.Test.YtckkhpegimkefaaGreatDoorRows
import GoSem.ClaimSeven
namespace Go.Proofs.YtckkhpegimkefaaGreatDoor
namespace Rows

/-- THE TIED CARD OF 'pursehouselaw.CertChains'. -/
def certChainsCard : Claim7 := { stood := { row := certChainsRow, standIns := [], harness := (true, "9216fbaaa61ea91d55616f368f6e592d4ce5fea1263a82b31314bbb2b31fdf68"), looks := false }, kinds := [], alts := [], laidByText := true, laidKinds := [.data, .data, .pinned], laidTests := true, laidLooks := .later }
def CertChainsCardSaid : Prop := Claim7.holds Tryz.pinned (.plain (OpenSpec.ofChange certChainsSpec)) certChainsCard

/-- THE TIED CARD OF 'pursehouselaw.CertBack'. -/
def certBackCard : Claim7 := { stood := { row := certBackRow, standIns := [], harness := (true, "9216fbaaa61ea91d55616f368f6e592d4ce5fea1263a82b31314bbb2b31fdf68"), looks := false }, kinds := [], alts := [], laidByText := true, laidKinds := [.data, .data, .pinned], laidTests := true, laidLooks := .later }
def CertBackCardSaid : Prop := Claim7.holds Tryz.pinned (.plain (OpenSpec.ofChange certBackSpec)) certBackCard

/-- THE SECOND FORM's CARD OF 'pursehouselaw.CertChains'. -/
def certChainsUptoCard : Claim7 := { stood := { row := certChainsUptoRow, standIns := [], harness := (true, "9216fbaaa61ea91d55616f368f6e592d4ce5fea1263a82b31314bbb2b31fdf68"), looks := false }, kinds := [], alts := [], laidByText := true, laidKinds := [.data, .data, .pinned], laidTests := true, laidLooks := .later }
def CertChainsUptoCardSaid : Prop := Claim7.holds Tryz.pinned (.plain (OpenSpec.upto certChainsSpec)) certChainsUptoCard

/-- THE SECOND FORM's CARD OF 'pursehouselaw.CertBack'. -/
def certBackUptoCard : Claim7 := { stood := { row := certBackUptoRow, standIns := [], harness := (true, "9216fbaaa61ea91d55616f368f6e592d4ce5fea1263a82b31314bbb2b31fdf68"), looks := false }, kinds := [], alts := [], laidByText := true, laidKinds := [.data, .data, .pinned], laidTests := true, laidLooks := .later }
def CertBackUptoCardSaid : Prop := Claim7.holds Tryz.pinned (.plain (OpenSpec.upto certBackSpec)) certBackUptoCard
end Rows
end Go.Proofs.YtckkhpegimkefaaGreatDoor
