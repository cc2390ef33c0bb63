/-
  DERIVED. GIVEN WITH THE SEED: THE CARDS: each row of YtmbjknffmaphbaaDoorRows.lean that lists a variable, with what it lists TIED to the program's text (the seventh form; the later family's looks); each row that meets fmt, with fmt's text TOLD by the authors' own Lean function (tested against real Go, not proved from fmt's source: count such statements apart). THE CARD IS WHAT COUNTS. Prove the row's statement (the work); the ties are given (YtmbjknffmaphbaaDoorTie.lean); close each card by the builder's one call (the guide's Derived/Test/ToyasCard.lean, 'card_holds'). Laid BY PROGRAM, IN A SANDBOX (cutbox-door.mjs). By AI agents, Wed Nov 11 2026. No macro, syntax, notation, axiom, sorry.
-/
import Derived.Test.YtmbjknffmaphbaaDoorRows
import GoSem.ClaimSeven
namespace Go.Proofs.YtmbjknffmaphbaaDoor
namespace Rows

/-- THE TIED CARD OF 'pursehouselaw.LineFrames'. -/
def lineFramesCard : Claim7 := { stood := { row := lineFramesRow, standIns := [], harness := (true, "7cabe9917b9a5b355c47b0795d1abf1daa85a1e9521b17114c517b9fee34fdda"), looks := false }, kinds := [], alts := [], laidByText := true, laidKinds := [.data], laidTests := true, laidLooks := .later }
def LineFramesCardSaid : Prop := Claim7.holds Tryd.pinned (.plain (OpenSpec.ofChange lineFramesSpec)) lineFramesCard

/-- THE TIED CARD OF 'pursehouselaw.LineBends'. -/
def lineBendsCard : Claim7 := { stood := { row := lineBendsRow, standIns := [], harness := (true, "7cabe9917b9a5b355c47b0795d1abf1daa85a1e9521b17114c517b9fee34fdda"), looks := false }, kinds := [], alts := [], laidByText := true, laidKinds := [.data], laidTests := true, laidLooks := .later }
def LineBendsCardSaid : Prop := Claim7.holds Tryd.pinned (.plain (OpenSpec.ofChange lineBendsSpec)) lineBendsCard

/-- THE TIED CARD OF 'pursehouselaw.LineEnds'. -/
def lineEndsCard : Claim7 := { stood := { row := lineEndsRow, standIns := [], harness := (true, "7cabe9917b9a5b355c47b0795d1abf1daa85a1e9521b17114c517b9fee34fdda"), looks := false }, kinds := [], alts := [], laidByText := true, laidKinds := [.data], laidTests := true, laidLooks := .later }
def LineEndsCardSaid : Prop := Claim7.holds Tryd.pinned (.plain (OpenSpec.ofChange lineEndsSpec)) lineEndsCard

/-- THE TIED CARD OF 'pursehouselaw.LineLoses'. -/
def lineLosesCard : Claim7 := { stood := { row := lineLosesRow, standIns := [], harness := (true, "7cabe9917b9a5b355c47b0795d1abf1daa85a1e9521b17114c517b9fee34fdda"), looks := false }, kinds := [], alts := [], laidByText := true, laidKinds := [.data], laidTests := true, laidLooks := .later }
def LineLosesCardSaid : Prop := Claim7.holds Tryd.pinned (.plain (OpenSpec.ofChange lineLosesSpec)) lineLosesCard

/-- THE SECOND FORM's CARD OF 'pursehouselaw.LineFrames'. -/
def lineFramesUptoCard : Claim7 := { stood := { row := lineFramesUptoRow, standIns := [], harness := (true, "7cabe9917b9a5b355c47b0795d1abf1daa85a1e9521b17114c517b9fee34fdda"), looks := false }, kinds := [], alts := [], laidByText := true, laidKinds := [.data], laidTests := true, laidLooks := .later }
def LineFramesUptoCardSaid : Prop := Claim7.holds Tryd.pinned (.plain (OpenSpec.upto lineFramesSpec)) lineFramesUptoCard

/-- THE SECOND FORM's CARD OF 'pursehouselaw.LineBends'. -/
def lineBendsUptoCard : Claim7 := { stood := { row := lineBendsUptoRow, standIns := [], harness := (true, "7cabe9917b9a5b355c47b0795d1abf1daa85a1e9521b17114c517b9fee34fdda"), looks := false }, kinds := [], alts := [], laidByText := true, laidKinds := [.data], laidTests := true, laidLooks := .later }
def LineBendsUptoCardSaid : Prop := Claim7.holds Tryd.pinned (.plain (OpenSpec.upto lineBendsSpec)) lineBendsUptoCard

/-- THE SECOND FORM's CARD OF 'pursehouselaw.LineEnds'. -/
def lineEndsUptoCard : Claim7 := { stood := { row := lineEndsUptoRow, standIns := [], harness := (true, "7cabe9917b9a5b355c47b0795d1abf1daa85a1e9521b17114c517b9fee34fdda"), looks := false }, kinds := [], alts := [], laidByText := true, laidKinds := [.data], laidTests := true, laidLooks := .later }
def LineEndsUptoCardSaid : Prop := Claim7.holds Tryd.pinned (.plain (OpenSpec.upto lineEndsSpec)) lineEndsUptoCard

/-- THE SECOND FORM's CARD OF 'pursehouselaw.LineLoses'. -/
def lineLosesUptoCard : Claim7 := { stood := { row := lineLosesUptoRow, standIns := [], harness := (true, "7cabe9917b9a5b355c47b0795d1abf1daa85a1e9521b17114c517b9fee34fdda"), looks := false }, kinds := [], alts := [], laidByText := true, laidKinds := [.data], laidTests := true, laidLooks := .later }
def LineLosesUptoCardSaid : Prop := Claim7.holds Tryd.pinned (.plain (OpenSpec.upto lineLosesSpec)) lineLosesUptoCard
end Rows
end Go.Proofs.YtmbjknffmaphbaaDoor
