/-
  NARROWER THAN 'FOR EVERY INPUT', by the rows' own cells (each row's printed sentence says how): TagTurns: loops · TagFinds: loops · TagFills: loops.
  DERIVED. THE GIVEN ROWS OF THIS SEAT. 6 by the template 'for every input the law returns true; each argument reads behind the call as it read before'; 0 by the template 'total and deterministic' (their statements: YthamjfgiklbifabTotals.lean).
  GIVEN WITH THE SEED: the statements are not yours to turn. If you find one false, say at which input.
  Laid BY PROGRAM, IN A SANDBOX (cutbox-rows.mjs): the forced cells as the released guide's own fill.sh prints them over the translation 8d9d59e83a802ee8… (all of the seat's roots in one cut). By AI agents, Wed Nov 11 2026. No macro, syntax, notation, axiom, sorry.
-/
import Derived.Test.YthamjfgiklbifabChecked
import GoSem.Claim
import GoSem.ClaimJoined
import GoSem.ClaimMapViews
import Derived.JoinedTies
import Derived.KernelRfl
namespace Go.Proofs.Ythamjfgiklbifab
/- THE CELL 'sum', in the pinned program and in every row, IS THE sha256 OF THE DUMP (.gsa) THAT YthamjfgiklbifabProg.lean LOADS. Nothing in Lean hashes anything: it is a label: what it is worth is what the hold of that sum in a sandbox is worth. -/
noncomputable def Try.pinned : Pinned := { name := "ythamjfgiklbifab", sum := "8d9d59e83a802ee88a8598d7be2368faaeaa909d79a6ff6e1fac0aa9c99c555c", checked := Try.checked }
namespace Rows
def none {H : Type} : Left H := { results := [], args := [] }

/-- 'pursehouselaw.TagParses': WHATEVER THE INPUT: true; the input reads as it did. -/
def tagParsesSpec : ChangeSpec := { name := "tagParses", fn := fun _ => fun
  | [d] => { results := [.lit (.bool true)], args := [d] }
  | _ => none }
def tagParsesRow : OpenClaim := { program := "ythamjfgiklbifab", sum := "8d9d59e83a802ee88a8598d7be2368faaeaa909d79a6ff6e1fac0aa9c99c555c", func := "pursehouse/pursehouselaw.TagParses", spec := "tagParses", recurses := true, apart := false }
def TagParsesSaid : Prop := tagParsesRow.holds Try.pinned (OpenSpec.ofChange tagParsesSpec)

/-- ITS FALSE NEIGHBOUR: 'it returns false'. Refute it at one input. -/
def tagParsesWrong : ChangeSpec := { name := "tagParses", fn := fun _ => fun
  | [d] => { results := [.lit (.bool false)], args := [d] }
  | _ => none }
def TagParsesWrongFalsely : Prop := tagParsesRow.holds Try.pinned (OpenSpec.ofChange tagParsesWrong)

/-- 'pursehouselaw.TagTurns': WHATEVER THE INPUT: true; the input reads as it did. -/
def tagTurnsSpec : ChangeSpec := { name := "tagTurns", fn := fun _ => fun
  | [d1, d2] => { results := [.lit (.bool true)], args := [d1, d2] }
  | _ => none }
def tagTurnsRow : OpenClaim := { program := "ythamjfgiklbifab", sum := "8d9d59e83a802ee88a8598d7be2368faaeaa909d79a6ff6e1fac0aa9c99c555c", func := "pursehouse/pursehouselaw.TagTurns", spec := "tagTurns", recurses := true, loops := true, apart := false }
def TagTurnsSaid : Prop := tagTurnsRow.holds Try.pinned (OpenSpec.ofChange tagTurnsSpec)

/-- ITS FALSE NEIGHBOUR: 'it returns false'. Refute it at one input. -/
def tagTurnsWrong : ChangeSpec := { name := "tagTurns", fn := fun _ => fun
  | [d1, d2] => { results := [.lit (.bool false)], args := [d1, d2] }
  | _ => none }
def TagTurnsWrongFalsely : Prop := tagTurnsRow.holds Try.pinned (OpenSpec.ofChange tagTurnsWrong)

/-- 'pursehouselaw.TagFinds': WHATEVER THE INPUT: true; the input reads as it did. -/
def tagFindsSpec : ChangeSpec := { name := "tagFinds", fn := fun _ => fun
  | [d1, d2] => { results := [.lit (.bool true)], args := [d1, d2] }
  | _ => none }
def tagFindsRow : OpenClaim := { program := "ythamjfgiklbifab", sum := "8d9d59e83a802ee88a8598d7be2368faaeaa909d79a6ff6e1fac0aa9c99c555c", func := "pursehouse/pursehouselaw.TagFinds", spec := "tagFinds", recurses := true, loops := true, apart := false }
def TagFindsSaid : Prop := tagFindsRow.holds Try.pinned (OpenSpec.ofChange tagFindsSpec)

/-- ITS FALSE NEIGHBOUR: 'it returns false'. Refute it at one input. -/
def tagFindsWrong : ChangeSpec := { name := "tagFinds", fn := fun _ => fun
  | [d1, d2] => { results := [.lit (.bool false)], args := [d1, d2] }
  | _ => none }
def TagFindsWrongFalsely : Prop := tagFindsRow.holds Try.pinned (OpenSpec.ofChange tagFindsWrong)

/-- 'pursehouselaw.TagFields': WHATEVER THE INPUT: true; the input reads as it did. -/
def tagFieldsSpec : ChangeSpec := { name := "tagFields", fn := fun _ => fun
  | [d1, d2] => { results := [.lit (.bool true)], args := [d1, d2] }
  | _ => none }
def tagFieldsRow : OpenClaim := { program := "ythamjfgiklbifab", sum := "8d9d59e83a802ee88a8598d7be2368faaeaa909d79a6ff6e1fac0aa9c99c555c", func := "pursehouse/pursehouselaw.TagFields", spec := "tagFields", apart := false }
def TagFieldsSaid : Prop := tagFieldsRow.holds Try.pinned (OpenSpec.ofChange tagFieldsSpec)

/-- ITS FALSE NEIGHBOUR: 'it returns false'. Refute it at one input. -/
def tagFieldsWrong : ChangeSpec := { name := "tagFields", fn := fun _ => fun
  | [d1, d2] => { results := [.lit (.bool false)], args := [d1, d2] }
  | _ => none }
def TagFieldsWrongFalsely : Prop := tagFieldsRow.holds Try.pinned (OpenSpec.ofChange tagFieldsWrong)

/-- 'pursehouselaw.TagFills': WHATEVER THE INPUT: true; the input reads as it did. -/
def tagFillsSpec : ChangeSpec := { name := "tagFills", fn := fun _ => fun
  | [d1, d2] => { results := [.lit (.bool true)], args := [d1, d2] }
  | _ => none }
def tagFillsRow : OpenClaim := { program := "ythamjfgiklbifab", sum := "8d9d59e83a802ee88a8598d7be2368faaeaa909d79a6ff6e1fac0aa9c99c555c", func := "pursehouse/pursehouselaw.TagFills", spec := "tagFills", inPlace := ["internal/abi.NoEscape", "internal/bytealg.MakeNoZero"], recurses := true, loops := true, apart := false }
def TagFillsSaid : Prop := tagFillsRow.holds Try.pinned (OpenSpec.ofChange tagFillsSpec)

/-- ITS FALSE NEIGHBOUR: 'it returns false'. Refute it at one input. -/
def tagFillsWrong : ChangeSpec := { name := "tagFills", fn := fun _ => fun
  | [d1, d2] => { results := [.lit (.bool false)], args := [d1, d2] }
  | _ => none }
def TagFillsWrongFalsely : Prop := tagFillsRow.holds Try.pinned (OpenSpec.ofChange tagFillsWrong)

/-- 'pursehouselaw.TagNumbers': WHATEVER THE INPUT: true; the input reads as it did. -/
def tagNumbersSpec : ChangeSpec := { name := "tagNumbers", fn := fun _ => fun
  | [d1, d2, d3] => { results := [.lit (.bool true)], args := [d1, d2, d3] }
  | _ => none }
def tagNumbersRow : OpenClaim := { program := "ythamjfgiklbifab", sum := "8d9d59e83a802ee88a8598d7be2368faaeaa909d79a6ff6e1fac0aa9c99c555c", func := "pursehouse/pursehouselaw.TagNumbers", spec := "tagNumbers", apart := false }
def TagNumbersSaid : Prop := tagNumbersRow.holds Try.pinned (OpenSpec.ofChange tagNumbersSpec)

/-- ITS FALSE NEIGHBOUR: 'it returns false'. Refute it at one input. -/
def tagNumbersWrong : ChangeSpec := { name := "tagNumbers", fn := fun _ => fun
  | [d1, d2, d3] => { results := [.lit (.bool false)], args := [d1, d2, d3] }
  | _ => none }
def TagNumbersWrongFalsely : Prop := tagNumbersRow.holds Try.pinned (OpenSpec.ofChange tagNumbersWrong)

/- THE SECOND FORM. 'bulk': how many values and letters a reading holds, each counted each time it is reached (what is shared counts as often as it is met; a slice's spare places count too). A statement '..UptoSaid' is the law's where the arguments, and the package variables that the reading takes, are together of bulk at most 1048576: NARROWER than '..Said'. Prove '..Said' where nothing that the law and all that it calls make is longer than what came in: it says more and counts as full. Else prove '..UptoSaid'. A law counts once. -/
mutual
def uptoBulk {H : Type} : DataW H → Nat
  | .lit (.string bytes) => bytes.length + 1
  | .lit _ => 1
  | .nil => 1
  | .ptr d => uptoBulk d + 1
  | .slice elems spare => uptoBulkAll elems + uptoBulkAll spare + 1
  | .agg parts => uptoBulkAll parts + 1
  | .iface _ d => uptoBulk d + 1
  | .map entries => uptoBulkEntries entries + 1
  | .held _ => 1
def uptoBulkAll {H : Type} : List (DataW H) → Nat
  | [] => 0
  | d :: r => uptoBulk d + uptoBulkAll r
def uptoBulkEntries {H : Type} : List (Lit × DataW H) → Nat
  | [] => 0
  | x :: r => uptoBulkEntry x + uptoBulkEntries r
def uptoBulkEntry {H : Type} : Lit × DataW H → Nat
  | (.string bytes, d) => bytes.length + uptoBulk d + 1
  | (_, d) => uptoBulk d + 1
 end
def uptoSmall : (H : Type) → List (DataW H) → Bool := fun _ ds => decide (uptoBulkAll ds ≤ 1048576)
def OpenSpec.upto (s : _root_.Go.ChangeSpec) : _root_.Go.OpenSpec := { _root_.Go.OpenSpec.ofChange s with cond := some uptoSmall }

/-- 'pursehouselaw.TagParses', WHERE WHAT IT READS IS OF BULK AT MOST 1048576: true; the input reads as it did. -/
def tagParsesUptoRow : OpenClaim := { program := "ythamjfgiklbifab", sum := "8d9d59e83a802ee88a8598d7be2368faaeaa909d79a6ff6e1fac0aa9c99c555c", func := "pursehouse/pursehouselaw.TagParses", spec := "tagParses", recurses := true, apart := false, narrowed := true }
def TagParsesUptoSaid : Prop := tagParsesUptoRow.holds Try.pinned (OpenSpec.upto tagParsesSpec)

/-- 'pursehouselaw.TagTurns', WHERE WHAT IT READS IS OF BULK AT MOST 1048576: true; the input reads as it did. -/
def tagTurnsUptoRow : OpenClaim := { program := "ythamjfgiklbifab", sum := "8d9d59e83a802ee88a8598d7be2368faaeaa909d79a6ff6e1fac0aa9c99c555c", func := "pursehouse/pursehouselaw.TagTurns", spec := "tagTurns", recurses := true, loops := true, apart := false, narrowed := true }
def TagTurnsUptoSaid : Prop := tagTurnsUptoRow.holds Try.pinned (OpenSpec.upto tagTurnsSpec)

/-- 'pursehouselaw.TagFinds', WHERE WHAT IT READS IS OF BULK AT MOST 1048576: true; the input reads as it did. -/
def tagFindsUptoRow : OpenClaim := { program := "ythamjfgiklbifab", sum := "8d9d59e83a802ee88a8598d7be2368faaeaa909d79a6ff6e1fac0aa9c99c555c", func := "pursehouse/pursehouselaw.TagFinds", spec := "tagFinds", recurses := true, loops := true, apart := false, narrowed := true }
def TagFindsUptoSaid : Prop := tagFindsUptoRow.holds Try.pinned (OpenSpec.upto tagFindsSpec)

/-- 'pursehouselaw.TagFields', WHERE WHAT IT READS IS OF BULK AT MOST 1048576: true; the input reads as it did. -/
def tagFieldsUptoRow : OpenClaim := { program := "ythamjfgiklbifab", sum := "8d9d59e83a802ee88a8598d7be2368faaeaa909d79a6ff6e1fac0aa9c99c555c", func := "pursehouse/pursehouselaw.TagFields", spec := "tagFields", apart := false, narrowed := true }
def TagFieldsUptoSaid : Prop := tagFieldsUptoRow.holds Try.pinned (OpenSpec.upto tagFieldsSpec)

/-- 'pursehouselaw.TagFills', WHERE WHAT IT READS IS OF BULK AT MOST 1048576: true; the input reads as it did. -/
def tagFillsUptoRow : OpenClaim := { program := "ythamjfgiklbifab", sum := "8d9d59e83a802ee88a8598d7be2368faaeaa909d79a6ff6e1fac0aa9c99c555c", func := "pursehouse/pursehouselaw.TagFills", spec := "tagFills", inPlace := ["internal/abi.NoEscape", "internal/bytealg.MakeNoZero"], recurses := true, loops := true, apart := false, narrowed := true }
def TagFillsUptoSaid : Prop := tagFillsUptoRow.holds Try.pinned (OpenSpec.upto tagFillsSpec)

/-- 'pursehouselaw.TagNumbers', WHERE WHAT IT READS IS OF BULK AT MOST 1048576: true; the input reads as it did. -/
def tagNumbersUptoRow : OpenClaim := { program := "ythamjfgiklbifab", sum := "8d9d59e83a802ee88a8598d7be2368faaeaa909d79a6ff6e1fac0aa9c99c555c", func := "pursehouse/pursehouselaw.TagNumbers", spec := "tagNumbers", apart := false, narrowed := true }
def TagNumbersUptoSaid : Prop := tagNumbersUptoRow.holds Try.pinned (OpenSpec.upto tagNumbersSpec)

end Rows
end Go.Proofs.Ythamjfgiklbifab
