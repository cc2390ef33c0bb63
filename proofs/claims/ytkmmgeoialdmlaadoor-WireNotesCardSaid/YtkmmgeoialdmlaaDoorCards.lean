/-
  DERIVED. GIVEN WITH THE SEED: THE CARDS: each row of YtkmmgeoialdmlaaDoorRows.lean that lists a variable, with what it lists TIED to the program's text (the seventh form; the later family's looks); each row that meets fmt, with fmt's text TOLD by the authors' own Lean function (tested against real Go, not proved from fmt's source: count such statements apart). THE CARD IS WHAT COUNTS. Prove the row's statement (the work); the ties are given (YtkmmgeoialdmlaaDoorTie.lean); close each card by the builder's one call (the guide's Derived/Test/ToyasCard.lean, 'card_holds'). Laid BY PROGRAM, IN A SANDBOX (cutbox-door.mjs). By AI agents, Wed Nov 11 2026. No macro, syntax, notation, axiom, sorry.
-/
import Derived.Test.YtkmmgeoialdmlaaDoorRows
import GoSem.ClaimSeven
namespace Go.Proofs.YtkmmgeoialdmlaaDoor
namespace Rows

/-- THE TIED CARD OF 'pursehouselaw.WirePacks'. -/
def wirePacksCard : Claim7 := { stood := { row := wirePacksRow, standIns := [], harness := (true, "351f2dfd205fd5ea61427fbf1a978102cd8bbf2a9807fe3631bb72a5e912c560"), looks := true }, kinds := [], alts := [], laidByText := true, laidKinds := [.data, .data, .data, .data, .sentinel, .sentinel, .data, .pinned], laidTests := true, laidLooks := .later }
def WirePacksCardSaid : Prop := Claim7.holds Tryd.pinned (.plain (OpenSpec.ofChange wirePacksSpec)) wirePacksCard

/-- THE TIED CARD OF 'pursehouselaw.WireNotes'. -/
def wireNotesCard : Claim7 := { stood := { row := wireNotesRow, standIns := [], harness := (true, "351f2dfd205fd5ea61427fbf1a978102cd8bbf2a9807fe3631bb72a5e912c560"), looks := true }, kinds := [], alts := [], laidByText := true, laidKinds := [.data, .data, .data, .data, .sentinel, .sentinel, .data, .pinned], laidTests := true, laidLooks := .later }
def WireNotesCardSaid : Prop := Claim7.holds Tryd.pinned (.plain (OpenSpec.ofChange wireNotesSpec)) wireNotesCard

/-- THE SECOND FORM's CARD OF 'pursehouselaw.WirePacks'. -/
def wirePacksUptoCard : Claim7 := { stood := { row := wirePacksUptoRow, standIns := [], harness := (true, "351f2dfd205fd5ea61427fbf1a978102cd8bbf2a9807fe3631bb72a5e912c560"), looks := true }, kinds := [], alts := [], laidByText := true, laidKinds := [.data, .data, .data, .data, .sentinel, .sentinel, .data, .pinned], laidTests := true, laidLooks := .later }
def WirePacksUptoCardSaid : Prop := Claim7.holds Tryd.pinned (.plain (OpenSpec.upto wirePacksSpec)) wirePacksUptoCard

/-- THE SECOND FORM's CARD OF 'pursehouselaw.WireNotes'. -/
def wireNotesUptoCard : Claim7 := { stood := { row := wireNotesUptoRow, standIns := [], harness := (true, "351f2dfd205fd5ea61427fbf1a978102cd8bbf2a9807fe3631bb72a5e912c560"), looks := true }, kinds := [], alts := [], laidByText := true, laidKinds := [.data, .data, .data, .data, .sentinel, .sentinel, .data, .pinned], laidTests := true, laidLooks := .later }
def WireNotesUptoCardSaid : Prop := Claim7.holds Tryd.pinned (.plain (OpenSpec.upto wireNotesSpec)) wireNotesUptoCard
end Rows
end Go.Proofs.YtkmmgeoialdmlaaDoor
