/-
  DERIVED. GIVEN WITH THE SEED: THE CARDS: each row of YtbiipeapcclbkaaDoorRows.lean that lists a variable, with what it lists TIED to the program's text (the seventh form; the later family's looks); each row that meets fmt, with fmt's text TOLD by the authors' own Lean function (tested against real Go, not proved from fmt's source: count such statements apart). THE CARD IS WHAT COUNTS. Prove the row's statement (the work); the ties are given (YtbiipeapcclbkaaDoorTie.lean); close each card by the builder's one call (the guide's Derived/Test/ToyasCard.lean, 'card_holds'). Laid BY PROGRAM, IN A SANDBOX (cutbox-door.mjs). By AI agents, Wed Nov 11 2026. No macro, syntax, notation, axiom, sorry.
-/
import Derived.Test.YtbiipeapcclbkaaDoorRows
import GoSem.ClaimSeven
namespace Go.Proofs.YtbiipeapcclbkaaDoor
namespace Rows

/-- THE TIED CARD OF 'pursehouselaw.HostKeys'. -/
def hostKeysCard : Claim7 := { stood := { row := hostKeysRow, standIns := [], harness := (true, "63cb328f5456f949a54735fd0f0aec8e4c8882a8c29c736d81fa64094ef56183"), looks := false }, kinds := [], alts := [], laidByText := true, laidKinds := [.data, .pinned], laidTests := true, laidLooks := .later }
def HostKeysCardSaid : Prop := Claim7.holds Tryd.pinned (.plain (OpenSpec.ofChange hostKeysSpec)) hostKeysCard

/-- THE SECOND FORM's CARD OF 'pursehouselaw.HostKeys'. -/
def hostKeysUptoCard : Claim7 := { stood := { row := hostKeysUptoRow, standIns := [], harness := (true, "63cb328f5456f949a54735fd0f0aec8e4c8882a8c29c736d81fa64094ef56183"), looks := false }, kinds := [], alts := [], laidByText := true, laidKinds := [.data, .pinned], laidTests := true, laidLooks := .later }
def HostKeysUptoCardSaid : Prop := Claim7.holds Tryd.pinned (.plain (OpenSpec.upto hostKeysSpec)) hostKeysUptoCard
end Rows
end Go.Proofs.YtbiipeapcclbkaaDoor
