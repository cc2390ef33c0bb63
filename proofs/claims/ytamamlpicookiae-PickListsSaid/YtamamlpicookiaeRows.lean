/-
  No cell of these rows narrows 'for every input' (looked for: loops, veiled, ifaces, maps, wideKeys, modest, calm, conditions, laid).
  DERIVED. THE GIVEN ROWS OF THIS SEAT. 4 by the template 'for every input the law returns true; each argument reads behind the call as it read before'; 0 by the template 'total and deterministic' (their statements: YtamamlpicookiaeTotals.lean).
  GIVEN WITH THE SEED: the statements are not yours to turn. If you find one false, say at which input.
  Laid BY PROGRAM, IN A SANDBOX (cutbox-rows.mjs): the forced cells as the released guide's own fill.sh prints them over the translation 3463cc4065e31923… (all of the seat's roots in one cut). By AI agents, Wed Nov 11 2026. No macro, syntax, notation, axiom, sorry.
-/
import Derived.Test.YtamamlpicookiaeChecked
import GoSem.Claim
import GoSem.ClaimJoined
import GoSem.ClaimMapViews
import Derived.JoinedTies
import Derived.KernelRfl
namespace Go.Proofs.Ytamamlpicookiae
/- THE CELL 'sum', in the pinned program and in every row, IS THE sha256 OF THE DUMP (.gsa) THAT YtamamlpicookiaeProg.lean LOADS. Nothing in Lean hashes anything: it is a label: what it is worth is what the hold of that sum in a sandbox is worth. -/
noncomputable def Try.pinned : Pinned := { name := "ytamamlpicookiae", sum := "3463cc4065e3192377770e21c2afcf5f87f17a5c4bc89c4d7523a2c371501062", checked := Try.checked }
namespace Rows
def none {H : Type} : Left H := { results := [], args := [] }

/-- 'pursehouselaw.PickLists': WHATEVER THE INPUT: true; the input reads as it did. -/
def pickListsSpec : ChangeSpec := { name := "pickLists", fn := fun _ => fun
  | [d1, d2] => { results := [.lit (.bool true)], args := [d1, d2] }
  | _ => none }
def pickListsRow : OpenClaim := { program := "ytamamlpicookiae", sum := "3463cc4065e3192377770e21c2afcf5f87f17a5c4bc89c4d7523a2c371501062", func := "pursehouse/pursehouselaw.PickLists", spec := "pickLists", unfollowed := true, recurses := true, apart := false }
def PickListsSaid : Prop := pickListsRow.holds Try.pinned (OpenSpec.ofChange pickListsSpec)

/-- ITS FALSE NEIGHBOUR: 'it returns false'. Refute it at one input. -/
def pickListsWrong : ChangeSpec := { name := "pickLists", fn := fun _ => fun
  | [d1, d2] => { results := [.lit (.bool false)], args := [d1, d2] }
  | _ => none }
def PickListsWrongFalsely : Prop := pickListsRow.holds Try.pinned (OpenSpec.ofChange pickListsWrong)

/-- 'pursehouselaw.PickTurns': WHATEVER THE INPUT: true; the input reads as it did. -/
def pickTurnsSpec : ChangeSpec := { name := "pickTurns", fn := fun _ => fun
  | [d1, d2] => { results := [.lit (.bool true)], args := [d1, d2] }
  | _ => none }
def pickTurnsRow : OpenClaim := { program := "ytamamlpicookiae", sum := "3463cc4065e3192377770e21c2afcf5f87f17a5c4bc89c4d7523a2c371501062", func := "pursehouse/pursehouselaw.PickTurns", spec := "pickTurns", unfollowed := true, recurses := true, apart := false }
def PickTurnsSaid : Prop := pickTurnsRow.holds Try.pinned (OpenSpec.ofChange pickTurnsSpec)

/-- ITS FALSE NEIGHBOUR: 'it returns false'. Refute it at one input. -/
def pickTurnsWrong : ChangeSpec := { name := "pickTurns", fn := fun _ => fun
  | [d1, d2] => { results := [.lit (.bool false)], args := [d1, d2] }
  | _ => none }
def PickTurnsWrongFalsely : Prop := pickTurnsRow.holds Try.pinned (OpenSpec.ofChange pickTurnsWrong)

/-- 'pursehouselaw.PickCandidates': WHATEVER THE INPUT: true; the input reads as it did. -/
def pickCandidatesSpec : ChangeSpec := { name := "pickCandidates", fn := fun _ => fun
  | [d1, d2] => { results := [.lit (.bool true)], args := [d1, d2] }
  | _ => none }
def pickCandidatesRow : OpenClaim := { program := "ytamamlpicookiae", sum := "3463cc4065e3192377770e21c2afcf5f87f17a5c4bc89c4d7523a2c371501062", func := "pursehouse/pursehouselaw.PickCandidates", spec := "pickCandidates", unfollowed := true, recurses := true, apart := false }
def PickCandidatesSaid : Prop := pickCandidatesRow.holds Try.pinned (OpenSpec.ofChange pickCandidatesSpec)

/-- ITS FALSE NEIGHBOUR: 'it returns false'. Refute it at one input. -/
def pickCandidatesWrong : ChangeSpec := { name := "pickCandidates", fn := fun _ => fun
  | [d1, d2] => { results := [.lit (.bool false)], args := [d1, d2] }
  | _ => none }
def PickCandidatesWrongFalsely : Prop := pickCandidatesRow.holds Try.pinned (OpenSpec.ofChange pickCandidatesWrong)

/-- 'pursehouselaw.PickAlike': WHATEVER THE INPUT: true; the input reads as it did. -/
def pickAlikeSpec : ChangeSpec := { name := "pickAlike", fn := fun _ => fun
  | [d1, d2, d3] => { results := [.lit (.bool true)], args := [d1, d2, d3] }
  | _ => none }
def pickAlikeRow : OpenClaim := { program := "ytamamlpicookiae", sum := "3463cc4065e3192377770e21c2afcf5f87f17a5c4bc89c4d7523a2c371501062", func := "pursehouse/pursehouselaw.PickAlike", spec := "pickAlike", unfollowed := true, recurses := true, apart := false }
def PickAlikeSaid : Prop := pickAlikeRow.holds Try.pinned (OpenSpec.ofChange pickAlikeSpec)

/-- ITS FALSE NEIGHBOUR: 'it returns false'. Refute it at one input. -/
def pickAlikeWrong : ChangeSpec := { name := "pickAlike", fn := fun _ => fun
  | [d1, d2, d3] => { results := [.lit (.bool false)], args := [d1, d2, d3] }
  | _ => none }
def PickAlikeWrongFalsely : Prop := pickAlikeRow.holds Try.pinned (OpenSpec.ofChange pickAlikeWrong)

/- THE SECOND FORM. 'bulk': how many values and letters a reading holds, each counted each time it is reached (what is shared counts as often as it is met; a slice's spare places count too). A statement '..UptoSaid' is the law's where the arguments, and the package variables that the reading takes, are together of bulk at most 1048576: NARROWER than '..Said'. Prove '..Said' where nothing that the law and all that it calls make is longer than what came in: it says more and counts as full. Else prove '..UptoSaid'. A law counts once. -/
mutual
def uptoBulk {H : Type} : DataW H → Nat
  | .lit (.string bytes) => bytes.length + 1
  | .lit _ => 1
  | .nil => 1
  | .ptr d => uptoBulk d + 1
  | .slice elems spare => uptoBulkAll elems + uptoBulkAll spare + 1
  | .agg parts => uptoBulkAll parts + 1
  | .iface _ d => uptoBulk d + 1
  | .map entries => uptoBulkEntries entries + 1
  | .held _ => 1
def uptoBulkAll {H : Type} : List (DataW H) → Nat
  | [] => 0
  | d :: r => uptoBulk d + uptoBulkAll r
def uptoBulkEntries {H : Type} : List (Lit × DataW H) → Nat
  | [] => 0
  | x :: r => uptoBulkEntry x + uptoBulkEntries r
def uptoBulkEntry {H : Type} : Lit × DataW H → Nat
  | (.string bytes, d) => bytes.length + uptoBulk d + 1
  | (_, d) => uptoBulk d + 1
 end
def uptoSmall : (H : Type) → List (DataW H) → Bool := fun _ ds => decide (uptoBulkAll ds ≤ 1048576)
def OpenSpec.upto (s : _root_.Go.ChangeSpec) : _root_.Go.OpenSpec := { _root_.Go.OpenSpec.ofChange s with cond := some uptoSmall }

/-- 'pursehouselaw.PickLists', WHERE WHAT IT READS IS OF BULK AT MOST 1048576: true; the input reads as it did. -/
def pickListsUptoRow : OpenClaim := { program := "ytamamlpicookiae", sum := "3463cc4065e3192377770e21c2afcf5f87f17a5c4bc89c4d7523a2c371501062", func := "pursehouse/pursehouselaw.PickLists", spec := "pickLists", unfollowed := true, recurses := true, apart := false, narrowed := true }
def PickListsUptoSaid : Prop := pickListsUptoRow.holds Try.pinned (OpenSpec.upto pickListsSpec)

/-- 'pursehouselaw.PickTurns', WHERE WHAT IT READS IS OF BULK AT MOST 1048576: true; the input reads as it did. -/
def pickTurnsUptoRow : OpenClaim := { program := "ytamamlpicookiae", sum := "3463cc4065e3192377770e21c2afcf5f87f17a5c4bc89c4d7523a2c371501062", func := "pursehouse/pursehouselaw.PickTurns", spec := "pickTurns", unfollowed := true, recurses := true, apart := false, narrowed := true }
def PickTurnsUptoSaid : Prop := pickTurnsUptoRow.holds Try.pinned (OpenSpec.upto pickTurnsSpec)

/-- 'pursehouselaw.PickCandidates', WHERE WHAT IT READS IS OF BULK AT MOST 1048576: true; the input reads as it did. -/
def pickCandidatesUptoRow : OpenClaim := { program := "ytamamlpicookiae", sum := "3463cc4065e3192377770e21c2afcf5f87f17a5c4bc89c4d7523a2c371501062", func := "pursehouse/pursehouselaw.PickCandidates", spec := "pickCandidates", unfollowed := true, recurses := true, apart := false, narrowed := true }
def PickCandidatesUptoSaid : Prop := pickCandidatesUptoRow.holds Try.pinned (OpenSpec.upto pickCandidatesSpec)

/-- 'pursehouselaw.PickAlike', WHERE WHAT IT READS IS OF BULK AT MOST 1048576: true; the input reads as it did. -/
def pickAlikeUptoRow : OpenClaim := { program := "ytamamlpicookiae", sum := "3463cc4065e3192377770e21c2afcf5f87f17a5c4bc89c4d7523a2c371501062", func := "pursehouse/pursehouselaw.PickAlike", spec := "pickAlike", unfollowed := true, recurses := true, apart := false, narrowed := true }
def PickAlikeUptoSaid : Prop := pickAlikeUptoRow.holds Try.pinned (OpenSpec.upto pickAlikeSpec)

end Rows
end Go.Proofs.Ytamamlpicookiae
