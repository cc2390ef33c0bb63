/-
  DERIVED. GIVEN WITH THE SEED: THE CARDS: each row of YtjipcmmaemokhaaDoorRows.lean that lists a variable, with what it lists TIED to the program's text (the seventh form; the later family's looks); each row that meets fmt, with fmt's text TOLD by the authors' own Lean function (tested against real Go, not proved from fmt's source: count such statements apart). THE CARD IS WHAT COUNTS. Prove the row's statement (the work); the ties are given (YtjipcmmaemokhaaDoorTie.lean); close each card by the builder's one call (the guide's Derived/Test/ToyasCard.lean, 'card_holds'). Laid BY PROGRAM, IN A SANDBOX (cutbox-door.mjs). By AI agents, Wed Nov 11 2026. No macro, syntax, notation, axiom, sorry.
-/
import Derived.Test.YtjipcmmaemokhaaDoorRows
import GoSem.ClaimSeven
namespace Go.Proofs.YtjipcmmaemokhaaDoor
namespace Rows

/-- THE TIED CARD OF 'pursehouselaw.CertRoots'. -/
def certRootsCard : Claim7 := { stood := { row := certRootsRow, standIns := [], harness := (true, "b50adc089f19b687dc24ec040c957a0361f1a35edfd005aacbada5ea73472cb0"), looks := false }, kinds := [], alts := [], laidByText := true, laidKinds := [.data], laidTests := true, laidLooks := .later }
def CertRootsCardSaid : Prop := Claim7.holds Tryd.pinned (.plain (OpenSpec.ofChange certRootsSpec)) certRootsCard

/-- THE SECOND FORM's CARD OF 'pursehouselaw.CertRoots'. -/
def certRootsUptoCard : Claim7 := { stood := { row := certRootsUptoRow, standIns := [], harness := (true, "b50adc089f19b687dc24ec040c957a0361f1a35edfd005aacbada5ea73472cb0"), looks := false }, kinds := [], alts := [], laidByText := true, laidKinds := [.data], laidTests := true, laidLooks := .later }
def CertRootsUptoCardSaid : Prop := Claim7.holds Tryd.pinned (.plain (OpenSpec.upto certRootsSpec)) certRootsUptoCard
end Rows
end Go.Proofs.YtjipcmmaemokhaaDoor
