/-
  No cell of these rows narrows 'for every input' (looked for: loops, veiled, ifaces, maps, wideKeys, modest, calm, conditions, laid).
  DERIVED. THE GIVEN ROWS OF THIS SEAT. 6 by the template 'for every input the law returns true; each argument reads behind the call as it read before'; 0 by the template 'total and deterministic' (their statements: YtklnbkfajjgkaafTotals.lean).
  GIVEN WITH THE SEED: the statements are not yours to turn. If you find one false, say at which input.
  Laid BY PROGRAM, IN A SANDBOX (cutbox-rows.mjs): the forced cells as the released guide's own fill.sh prints them over the translation dfea2c9a8487c7f1… (all of the seat's roots in one cut). By AI agents, Wed Nov 11 2026. No macro, syntax, notation, axiom, sorry.
-/
import Derived.Test.YtklnbkfajjgkaafChecked
import GoSem.Claim
import GoSem.ClaimJoined
import GoSem.ClaimMapViews
import Derived.JoinedTies
import Derived.KernelRfl
namespace Go.Proofs.Ytklnbkfajjgkaaf
/- THE CELL 'sum', in the pinned program and in every row, IS THE sha256 OF THE DUMP (.gsa) THAT YtklnbkfajjgkaafProg.lean LOADS. Nothing in Lean hashes anything: it is a label: what it is worth is what the hold of that sum in a sandbox is worth. -/
noncomputable def Try.pinned : Pinned := { name := "ytklnbkfajjgkaaf", sum := "dfea2c9a8487c7f11180482aae8b67a9ba28a64ce779bf8c3833e79d999dbddb", checked := Try.checked }
namespace Rows
def none {H : Type} : Left H := { results := [], args := [] }

/-- 'pursehouselaw.PickSelects': WHATEVER THE INPUT: true; the input reads as it did. -/
def pickSelectsSpec : ChangeSpec := { name := "pickSelects", fn := fun _ => fun
  | [d1, d2] => { results := [.lit (.bool true)], args := [d1, d2] }
  | _ => none }
def pickSelectsRow : OpenClaim := { program := "ytklnbkfajjgkaaf", sum := "dfea2c9a8487c7f11180482aae8b67a9ba28a64ce779bf8c3833e79d999dbddb", func := "pursehouse/pursehouselaw.PickSelects", spec := "pickSelects", apart := false }
def PickSelectsSaid : Prop := pickSelectsRow.holds Try.pinned (OpenSpec.ofChange pickSelectsSpec)

/-- ITS FALSE NEIGHBOUR: 'it returns false'. Refute it at one input. -/
def pickSelectsWrong : ChangeSpec := { name := "pickSelects", fn := fun _ => fun
  | [d1, d2] => { results := [.lit (.bool false)], args := [d1, d2] }
  | _ => none }
def PickSelectsWrongFalsely : Prop := pickSelectsRow.holds Try.pinned (OpenSpec.ofChange pickSelectsWrong)

/-- 'pursehouselaw.RuleWalks': WHATEVER THE INPUT: true; the input reads as it did. -/
def ruleWalksSpec : ChangeSpec := { name := "ruleWalks", fn := fun _ => fun
  | [d1, d2] => { results := [.lit (.bool true)], args := [d1, d2] }
  | _ => none }
def ruleWalksRow : OpenClaim := { program := "ytklnbkfajjgkaaf", sum := "dfea2c9a8487c7f11180482aae8b67a9ba28a64ce779bf8c3833e79d999dbddb", func := "pursehouse/pursehouselaw.RuleWalks", spec := "ruleWalks", unfollowed := true, recurses := true, apart := false }
def RuleWalksSaid : Prop := ruleWalksRow.holds Try.pinned (OpenSpec.ofChange ruleWalksSpec)

/-- ITS FALSE NEIGHBOUR: 'it returns false'. Refute it at one input. -/
def ruleWalksWrong : ChangeSpec := { name := "ruleWalks", fn := fun _ => fun
  | [d1, d2] => { results := [.lit (.bool false)], args := [d1, d2] }
  | _ => none }
def RuleWalksWrongFalsely : Prop := ruleWalksRow.holds Try.pinned (OpenSpec.ofChange ruleWalksWrong)

/-- 'pursehouselaw.RuleFirst': WHATEVER THE INPUT: true; the input reads as it did. -/
def ruleFirstSpec : ChangeSpec := { name := "ruleFirst", fn := fun _ => fun
  | [d1, d2] => { results := [.lit (.bool true)], args := [d1, d2] }
  | _ => none }
def ruleFirstRow : OpenClaim := { program := "ytklnbkfajjgkaaf", sum := "dfea2c9a8487c7f11180482aae8b67a9ba28a64ce779bf8c3833e79d999dbddb", func := "pursehouse/pursehouselaw.RuleFirst", spec := "ruleFirst", unfollowed := true, recurses := true, apart := false }
def RuleFirstSaid : Prop := ruleFirstRow.holds Try.pinned (OpenSpec.ofChange ruleFirstSpec)

/-- ITS FALSE NEIGHBOUR: 'it returns false'. Refute it at one input. -/
def ruleFirstWrong : ChangeSpec := { name := "ruleFirst", fn := fun _ => fun
  | [d1, d2] => { results := [.lit (.bool false)], args := [d1, d2] }
  | _ => none }
def RuleFirstWrongFalsely : Prop := ruleFirstRow.holds Try.pinned (OpenSpec.ofChange ruleFirstWrong)

/-- 'pursehouselaw.RuleJudges': WHATEVER THE INPUT: true; the input reads as it did. -/
def ruleJudgesSpec : ChangeSpec := { name := "ruleJudges", fn := fun _ => fun
  | [d1, d2] => { results := [.lit (.bool true)], args := [d1, d2] }
  | _ => none }
def ruleJudgesRow : OpenClaim := { program := "ytklnbkfajjgkaaf", sum := "dfea2c9a8487c7f11180482aae8b67a9ba28a64ce779bf8c3833e79d999dbddb", func := "pursehouse/pursehouselaw.RuleJudges", spec := "ruleJudges", unfollowed := true, recurses := true, apart := false }
def RuleJudgesSaid : Prop := ruleJudgesRow.holds Try.pinned (OpenSpec.ofChange ruleJudgesSpec)

/-- ITS FALSE NEIGHBOUR: 'it returns false'. Refute it at one input. -/
def ruleJudgesWrong : ChangeSpec := { name := "ruleJudges", fn := fun _ => fun
  | [d1, d2] => { results := [.lit (.bool false)], args := [d1, d2] }
  | _ => none }
def RuleJudgesWrongFalsely : Prop := ruleJudgesRow.holds Try.pinned (OpenSpec.ofChange ruleJudgesWrong)

/-- 'pursehouselaw.RuleDrawn': WHATEVER THE INPUT: true; the input reads as it did. -/
def ruleDrawnSpec : ChangeSpec := { name := "ruleDrawn", fn := fun _ => fun
  | [d1, d2, d3] => { results := [.lit (.bool true)], args := [d1, d2, d3] }
  | _ => none }
def ruleDrawnRow : OpenClaim := { program := "ytklnbkfajjgkaaf", sum := "dfea2c9a8487c7f11180482aae8b67a9ba28a64ce779bf8c3833e79d999dbddb", func := "pursehouse/pursehouselaw.RuleDrawn", spec := "ruleDrawn", unfollowed := true, recurses := true, apart := false }
def RuleDrawnSaid : Prop := ruleDrawnRow.holds Try.pinned (OpenSpec.ofChange ruleDrawnSpec)

/-- ITS FALSE NEIGHBOUR: 'it returns false'. Refute it at one input. -/
def ruleDrawnWrong : ChangeSpec := { name := "ruleDrawn", fn := fun _ => fun
  | [d1, d2, d3] => { results := [.lit (.bool false)], args := [d1, d2, d3] }
  | _ => none }
def RuleDrawnWrongFalsely : Prop := ruleDrawnRow.holds Try.pinned (OpenSpec.ofChange ruleDrawnWrong)

/-- 'pursehouselaw.RuleDecides': WHATEVER THE INPUT: true; the input reads as it did. -/
def ruleDecidesSpec : ChangeSpec := { name := "ruleDecides", fn := fun _ => fun
  | [d1, d2, d3, d4] => { results := [.lit (.bool true)], args := [d1, d2, d3, d4] }
  | _ => none }
def ruleDecidesRow : OpenClaim := { program := "ytklnbkfajjgkaaf", sum := "dfea2c9a8487c7f11180482aae8b67a9ba28a64ce779bf8c3833e79d999dbddb", func := "pursehouse/pursehouselaw.RuleDecides", spec := "ruleDecides", unfollowed := true, recurses := true, apart := false }
def RuleDecidesSaid : Prop := ruleDecidesRow.holds Try.pinned (OpenSpec.ofChange ruleDecidesSpec)

/-- ITS FALSE NEIGHBOUR: 'it returns false'. Refute it at one input. -/
def ruleDecidesWrong : ChangeSpec := { name := "ruleDecides", fn := fun _ => fun
  | [d1, d2, d3, d4] => { results := [.lit (.bool false)], args := [d1, d2, d3, d4] }
  | _ => none }
def RuleDecidesWrongFalsely : Prop := ruleDecidesRow.holds Try.pinned (OpenSpec.ofChange ruleDecidesWrong)

/- THE SECOND FORM. 'bulk': how many values and letters a reading holds, each counted each time it is reached (what is shared counts as often as it is met; a slice's spare places count too). A statement '..UptoSaid' is the law's where the arguments, and the package variables that the reading takes, are together of bulk at most 1048576: NARROWER than '..Said'. Prove '..Said' where nothing that the law and all that it calls make is longer than what came in: it says more and counts as full. Else prove '..UptoSaid'. A law counts once. -/
mutual
def uptoBulk {H : Type} : DataW H → Nat
  | .lit (.string bytes) => bytes.length + 1
  | .lit _ => 1
  | .nil => 1
  | .ptr d => uptoBulk d + 1
  | .slice elems spare => uptoBulkAll elems + uptoBulkAll spare + 1
  | .agg parts => uptoBulkAll parts + 1
  | .iface _ d => uptoBulk d + 1
  | .map entries => uptoBulkEntries entries + 1
  | .held _ => 1
def uptoBulkAll {H : Type} : List (DataW H) → Nat
  | [] => 0
  | d :: r => uptoBulk d + uptoBulkAll r
def uptoBulkEntries {H : Type} : List (Lit × DataW H) → Nat
  | [] => 0
  | x :: r => uptoBulkEntry x + uptoBulkEntries r
def uptoBulkEntry {H : Type} : Lit × DataW H → Nat
  | (.string bytes, d) => bytes.length + uptoBulk d + 1
  | (_, d) => uptoBulk d + 1
 end
def uptoSmall : (H : Type) → List (DataW H) → Bool := fun _ ds => decide (uptoBulkAll ds ≤ 1048576)
def OpenSpec.upto (s : _root_.Go.ChangeSpec) : _root_.Go.OpenSpec := { _root_.Go.OpenSpec.ofChange s with cond := some uptoSmall }

/-- 'pursehouselaw.PickSelects', WHERE WHAT IT READS IS OF BULK AT MOST 1048576: true; the input reads as it did. -/
def pickSelectsUptoRow : OpenClaim := { program := "ytklnbkfajjgkaaf", sum := "dfea2c9a8487c7f11180482aae8b67a9ba28a64ce779bf8c3833e79d999dbddb", func := "pursehouse/pursehouselaw.PickSelects", spec := "pickSelects", apart := false, narrowed := true }
def PickSelectsUptoSaid : Prop := pickSelectsUptoRow.holds Try.pinned (OpenSpec.upto pickSelectsSpec)

/-- 'pursehouselaw.RuleWalks', WHERE WHAT IT READS IS OF BULK AT MOST 1048576: true; the input reads as it did. -/
def ruleWalksUptoRow : OpenClaim := { program := "ytklnbkfajjgkaaf", sum := "dfea2c9a8487c7f11180482aae8b67a9ba28a64ce779bf8c3833e79d999dbddb", func := "pursehouse/pursehouselaw.RuleWalks", spec := "ruleWalks", unfollowed := true, recurses := true, apart := false, narrowed := true }
def RuleWalksUptoSaid : Prop := ruleWalksUptoRow.holds Try.pinned (OpenSpec.upto ruleWalksSpec)

/-- 'pursehouselaw.RuleFirst', WHERE WHAT IT READS IS OF BULK AT MOST 1048576: true; the input reads as it did. -/
def ruleFirstUptoRow : OpenClaim := { program := "ytklnbkfajjgkaaf", sum := "dfea2c9a8487c7f11180482aae8b67a9ba28a64ce779bf8c3833e79d999dbddb", func := "pursehouse/pursehouselaw.RuleFirst", spec := "ruleFirst", unfollowed := true, recurses := true, apart := false, narrowed := true }
def RuleFirstUptoSaid : Prop := ruleFirstUptoRow.holds Try.pinned (OpenSpec.upto ruleFirstSpec)

/-- 'pursehouselaw.RuleJudges', WHERE WHAT IT READS IS OF BULK AT MOST 1048576: true; the input reads as it did. -/
def ruleJudgesUptoRow : OpenClaim := { program := "ytklnbkfajjgkaaf", sum := "dfea2c9a8487c7f11180482aae8b67a9ba28a64ce779bf8c3833e79d999dbddb", func := "pursehouse/pursehouselaw.RuleJudges", spec := "ruleJudges", unfollowed := true, recurses := true, apart := false, narrowed := true }
def RuleJudgesUptoSaid : Prop := ruleJudgesUptoRow.holds Try.pinned (OpenSpec.upto ruleJudgesSpec)

/-- 'pursehouselaw.RuleDrawn', WHERE WHAT IT READS IS OF BULK AT MOST 1048576: true; the input reads as it did. -/
def ruleDrawnUptoRow : OpenClaim := { program := "ytklnbkfajjgkaaf", sum := "dfea2c9a8487c7f11180482aae8b67a9ba28a64ce779bf8c3833e79d999dbddb", func := "pursehouse/pursehouselaw.RuleDrawn", spec := "ruleDrawn", unfollowed := true, recurses := true, apart := false, narrowed := true }
def RuleDrawnUptoSaid : Prop := ruleDrawnUptoRow.holds Try.pinned (OpenSpec.upto ruleDrawnSpec)

/-- 'pursehouselaw.RuleDecides', WHERE WHAT IT READS IS OF BULK AT MOST 1048576: true; the input reads as it did. -/
def ruleDecidesUptoRow : OpenClaim := { program := "ytklnbkfajjgkaaf", sum := "dfea2c9a8487c7f11180482aae8b67a9ba28a64ce779bf8c3833e79d999dbddb", func := "pursehouse/pursehouselaw.RuleDecides", spec := "ruleDecides", unfollowed := true, recurses := true, apart := false, narrowed := true }
def RuleDecidesUptoSaid : Prop := ruleDecidesUptoRow.holds Try.pinned (OpenSpec.upto ruleDecidesSpec)

end Rows
end Go.Proofs.Ytklnbkfajjgkaaf
