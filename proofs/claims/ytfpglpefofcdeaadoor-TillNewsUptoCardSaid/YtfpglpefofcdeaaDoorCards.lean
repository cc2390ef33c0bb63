/-
  DERIVED. GIVEN WITH THE SEED: THE CARDS: each row of YtfpglpefofcdeaaDoorRows.lean that lists a variable, with what it lists TIED to the program's text (the seventh form; the later family's looks); each row that meets fmt, with fmt's text TOLD by the authors' own Lean function (tested against real Go, not proved from fmt's source: count such statements apart). THE CARD IS WHAT COUNTS. Prove the row's statement (the work); the ties are given (YtfpglpefofcdeaaDoorTie.lean); close each card by the builder's one call (the guide's Derived/Test/ToyasCard.lean, 'card_holds'). Laid BY PROGRAM, IN A SANDBOX (cutbox-door.mjs). By AI agents, Wed Nov 11 2026. No macro, syntax, notation, axiom, sorry.
-/
import Derived.Test.YtfpglpefofcdeaaDoorRows
import GoSem.ClaimSeven
namespace Go.Proofs.YtfpglpefofcdeaaDoor
namespace Rows

/-- THE TIED CARD OF 'pursehouselaw.TillNews'. -/
def tillNewsCard : Claim7 := { stood := { row := tillNewsRow, standIns := [], harness := (true, "9dbfa129af986d6be69da89507d1adaed50c93809b01c56cb51a4b36035e49b0"), looks := false }, kinds := [], alts := [], laidByText := true, laidKinds := [.data, .pinned], laidTests := true, laidLooks := .later }
def TillNewsCardSaid : Prop := Claim7.holds Tryd.pinned (.plain (OpenSpec.ofChange tillNewsSpec)) tillNewsCard

/-- THE SECOND FORM's CARD OF 'pursehouselaw.TillNews'. -/
def tillNewsUptoCard : Claim7 := { stood := { row := tillNewsUptoRow, standIns := [], harness := (true, "9dbfa129af986d6be69da89507d1adaed50c93809b01c56cb51a4b36035e49b0"), looks := false }, kinds := [], alts := [], laidByText := true, laidKinds := [.data, .pinned], laidTests := true, laidLooks := .later }
def TillNewsUptoCardSaid : Prop := Claim7.holds Tryd.pinned (.plain (OpenSpec.upto tillNewsSpec)) tillNewsUptoCard
end Rows
end Go.Proofs.YtfpglpefofcdeaaDoor
