/-
  DERIVED. GIVEN WITH THE SEED: THE CARDS: each row of YtfpglpefofcdeaaGreatDoorRows.lean that lists a variable, with what it lists TIED to the program's text (the seventh form; the later family's looks); each row that meets fmt, with fmt's text TOLD by the authors' own Lean function (tested against real Go, not proved from fmt's source: count such statements apart). THE CARD IS WHAT COUNTS. Prove the row's statement (the work); the ties are given (YtfpglpefofcdeaaGreatDoorTie.lean); close each card by the builder's one call (the guide's Derived/Test/ToyasCard.lean, 'card_holds'). Laid BY PROGRAM, IN A SANDBOX (cutbox-door.mjs). By AI agents, Wed Nov 11 2026. No macro, syntax, notation, axiom, sorry.
-/
import Derived.Test.YtfpglpefofcdeaaGreatDoorRows
import GoSem.ClaimSeven
namespace Go.Proofs.YtfpglpefofcdeaaGreatDoor
namespace Rows

/-- THE TIED CARD OF 'pursehouselaw.TalkAnswers'. -/
def talkAnswersCard : Claim7 := { stood := { row := talkAnswersRow, standIns := [], harness := (true, "b5f9340c0a40e58e8068b7615e6c7f96a7df32c00b5a86b2e3785dcceacbd162"), looks := false }, kinds := [], alts := [], laidByText := true, laidKinds := [.data, .pinned], laidTests := true, laidLooks := .later }
def TalkAnswersCardSaid : Prop := Claim7.holds Tryz.pinned (.plain (OpenSpec.ofChange talkAnswersSpec)) talkAnswersCard

/-- THE TIED CARD OF 'pursehouselaw.TalkTurns'. -/
def talkTurnsCard : Claim7 := { stood := { row := talkTurnsRow, standIns := [], harness := (true, "b5f9340c0a40e58e8068b7615e6c7f96a7df32c00b5a86b2e3785dcceacbd162"), looks := false }, kinds := [], alts := [], laidByText := true, laidKinds := [.data, .pinned], laidTests := true, laidLooks := .later }
def TalkTurnsCardSaid : Prop := Claim7.holds Tryz.pinned (.plain (OpenSpec.ofChange talkTurnsSpec)) talkTurnsCard

/-- THE SECOND FORM's CARD OF 'pursehouselaw.TalkAnswers'. -/
def talkAnswersUptoCard : Claim7 := { stood := { row := talkAnswersUptoRow, standIns := [], harness := (true, "b5f9340c0a40e58e8068b7615e6c7f96a7df32c00b5a86b2e3785dcceacbd162"), looks := false }, kinds := [], alts := [], laidByText := true, laidKinds := [.data, .pinned], laidTests := true, laidLooks := .later }
def TalkAnswersUptoCardSaid : Prop := Claim7.holds Tryz.pinned (.plain (OpenSpec.upto talkAnswersSpec)) talkAnswersUptoCard

/-- THE SECOND FORM's CARD OF 'pursehouselaw.TalkTurns'. -/
def talkTurnsUptoCard : Claim7 := { stood := { row := talkTurnsUptoRow, standIns := [], harness := (true, "b5f9340c0a40e58e8068b7615e6c7f96a7df32c00b5a86b2e3785dcceacbd162"), looks := false }, kinds := [], alts := [], laidByText := true, laidKinds := [.data, .pinned], laidTests := true, laidLooks := .later }
def TalkTurnsUptoCardSaid : Prop := Claim7.holds Tryz.pinned (.plain (OpenSpec.upto talkTurnsSpec)) talkTurnsUptoCard
end Rows
end Go.Proofs.YtfpglpefofcdeaaGreatDoor
