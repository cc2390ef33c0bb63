/-
  DERIVED. GIVEN WITH THE SEED: THE CARDS: each row of YtbhkcbcnfekdjaaDoorRows.lean that lists a variable, with what it lists TIED to the program's text (the seventh form; the later family's looks); each row that meets fmt, with fmt's text TOLD by the authors' own Lean function (tested against real Go, not proved from fmt's source: count such statements apart). THE CARD IS WHAT COUNTS. Prove the row's statement (the work); the ties are given (YtbhkcbcnfekdjaaDoorTie.lean); close each card by the builder's one call (the guide's Derived/Test/ToyasCard.lean, 'card_holds'). Laid BY PROGRAM, IN A SANDBOX (cutbox-door.mjs). By AI agents, Wed Nov 11 2026. No macro, syntax, notation, axiom, sorry.
-/
import Derived.Test.YtbhkcbcnfekdjaaDoorRows
import GoSem.ClaimSeven
namespace Go.Proofs.YtbhkcbcnfekdjaaDoor
namespace Rows

/-- THE TIED CARD OF 'pursehouselaw.TillNews'. -/
def tillNewsCard : Claim7 := { stood := { row := tillNewsRow, standIns := [], harness := (true, "e198c2b5628d35d531340b16d7d5d1f9dbb903be8eee00b4423a9168fc1dbfdb"), looks := false }, kinds := [], alts := [], laidByText := true, laidKinds := [.data, .pinned], laidTests := true, laidLooks := .later }
def TillNewsCardSaid : Prop := Claim7.holds Tryd.pinned (.plain (OpenSpec.ofChange tillNewsSpec)) tillNewsCard

/-- THE TIED CARD OF 'pursehouselaw.PickShows'. -/
def pickShowsCard : Claim7 := { stood := { row := pickShowsRow, standIns := [], harness := (true, "e198c2b5628d35d531340b16d7d5d1f9dbb903be8eee00b4423a9168fc1dbfdb"), looks := false }, kinds := [], alts := [], laidByText := true, laidKinds := [.data, .pinned], laidTests := true, laidLooks := .later }
def PickShowsCardSaid : Prop := Claim7.holds Tryd.pinned (.plain (OpenSpec.ofChange pickShowsSpec)) pickShowsCard

/-- THE SECOND FORM's CARD OF 'pursehouselaw.TillNews'. -/
def tillNewsUptoCard : Claim7 := { stood := { row := tillNewsUptoRow, standIns := [], harness := (true, "e198c2b5628d35d531340b16d7d5d1f9dbb903be8eee00b4423a9168fc1dbfdb"), looks := false }, kinds := [], alts := [], laidByText := true, laidKinds := [.data, .pinned], laidTests := true, laidLooks := .later }
def TillNewsUptoCardSaid : Prop := Claim7.holds Tryd.pinned (.plain (OpenSpec.upto tillNewsSpec)) tillNewsUptoCard

/-- THE SECOND FORM's CARD OF 'pursehouselaw.PickShows'. -/
def pickShowsUptoCard : Claim7 := { stood := { row := pickShowsUptoRow, standIns := [], harness := (true, "e198c2b5628d35d531340b16d7d5d1f9dbb903be8eee00b4423a9168fc1dbfdb"), looks := false }, kinds := [], alts := [], laidByText := true, laidKinds := [.data, .pinned], laidTests := true, laidLooks := .later }
def PickShowsUptoCardSaid : Prop := Claim7.holds Tryd.pinned (.plain (OpenSpec.upto pickShowsSpec)) pickShowsUptoCard
end Rows
end Go.Proofs.YtbhkcbcnfekdjaaDoor
