/-
  NARROWER THAN 'FOR EVERY INPUT', by the rows' own cells (each row's printed sentence says how): CertChains: laid · CertBack: laid.
  DERIVED. THE GIVEN ROWS OF THIS SEAT. 2 by the template 'for every input the law returns true; each argument reads behind the call as it read before'; 0 by the template 'total and deterministic' (their statements: YtckkhpegimkefaaGreatDoorTotals.lean).
  GIVEN WITH THE SEED: the statements are not yours to turn. If you find one false, say at which input.
  Laid BY PROGRAM, IN A SANDBOX (cutbox-rows.mjs): the forced cells as the released guide's own fill.sh prints them over the translation c5462c346d2056ff… (all of the seat's roots in one cut). By AI agents, Wed Nov 11 2026. No macro, syntax, notation, axiom, sorry.
-/
import Derived.Test.YtckkhpegimkefaaGreatDoorChecked
import GoSem.PinnedTables
import GoSem.Claim
import GoSem.ClaimJoined
import GoSem.ClaimMapViews
import Derived.JoinedTies
import Derived.KernelRfl
namespace Go.Proofs.YtckkhpegimkefaaGreatDoor
/- THE CELL 'sum', in the pinned program and in every row, IS THE sha256 OF THE DUMP (.gsa) THAT YtckkhpegimkefaaGreatDoorProg.lean LOADS. Nothing in Lean hashes anything: it is a label: what it is worth is what the hold of that sum in a sandbox is worth. -/
noncomputable def Tryz.pinned : Pinned := { name := "ytckkhpegimkefaagreatdoor", sum := "c5462c346d2056fff3d9eb24dfd781e6bbe160e900e46a53446f4616b441cdfc", checked := Tryz.checked }
namespace Rows
def none {H : Type} : Left H := { results := [], args := [] }

/- WHAT THE LISTED PACKAGE-LEVEL VARIABLES READ AS WHEN THE CALL BEGINS. Each datum BY PROGRAM (the guide's laid-datum.mjs) off the statement by which the dump's own 'gosem.cut.vars' lays the variable. In a bare row this is a premise. The card (YtckkhpegimkefaaGreatDoorCards.lean) ties it to the program's text. -/
def laid_unicode_utf8_acceptRanges {H : Type} : DataW H := .agg [.agg [.lit (.int .u8 128), .lit (.int .u8 191)], .agg [.lit (.int .u8 160), .lit (.int .u8 191)], .agg [.lit (.int .u8 128), .lit (.int .u8 159)], .agg [.lit (.int .u8 144), .lit (.int .u8 191)], .agg [.lit (.int .u8 128), .lit (.int .u8 143)], .agg [.lit (.int .u8 0), .lit (.int .u8 0)], .agg [.lit (.int .u8 0), .lit (.int .u8 0)], .agg [.lit (.int .u8 0), .lit (.int .u8 0)], .agg [.lit (.int .u8 0), .lit (.int .u8 0)], .agg [.lit (.int .u8 0), .lit (.int .u8 0)], .agg [.lit (.int .u8 0), .lit (.int .u8 0)], .agg [.lit (.int .u8 0), .lit (.int .u8 0)], .agg [.lit (.int .u8 0), .lit (.int .u8 0)], .agg [.lit (.int .u8 0), .lit (.int .u8 0)], .agg [.lit (.int .u8 0), .lit (.int .u8 0)], .agg [.lit (.int .u8 0), .lit (.int .u8 0)]]
def laid_pursehouse_pursehouselaw_primes {H : Type} : DataW H := .agg [.agg [.lit (.string [99, 98, 100, 99, 50, 97, 48, 49, 52, 54, 50, 97, 55, 97, 56, 98, 56, 55, 102, 50, 102, 55, 102, 53, 52, 98, 52, 56, 101, 50, 99, 99, 52, 98, 56, 55, 56, 48, 99, 100]), .lit (.string [101, 49, 98, 99, 101, 52, 102, 54, 99, 50, 49, 57, 97, 51, 57, 56, 48, 57, 102, 48, 51, 50, 98, 55, 56, 101, 49, 56, 57, 52, 51, 53, 49, 97, 53, 50, 100, 49, 57, 100])], .agg [.lit (.string [99, 48, 100, 54, 48, 99, 52, 100, 51, 100, 97, 99, 98, 57, 49, 99, 57, 56, 50, 99, 102, 52, 50, 55, 54, 99, 48, 97, 48, 57, 54, 56, 54, 97, 56, 51, 100, 101, 101, 49, 99, 49]), .lit (.string [102, 56, 56, 48, 57, 98, 50, 50, 101, 53, 57, 48, 99, 98, 51, 54, 48, 52, 51, 52, 97, 57, 51, 51, 54, 55, 98, 52, 98, 97, 57, 51, 102, 56, 102, 53, 50, 102, 50, 55])], .agg [.lit (.string [100, 48, 98, 98, 57, 50, 49, 53, 53, 100, 97, 99, 50, 55, 52, 51, 55, 53, 56, 98, 52, 53, 98, 49, 99, 56, 52, 100, 97, 50, 97, 53, 55, 48, 48, 56, 54, 101, 50, 51, 100, 102, 97, 99, 98, 55, 102, 57, 48, 51]), .lit (.string [101, 102, 52, 57, 51, 48, 55, 53, 49, 54, 99, 97, 99, 102, 98, 99, 57, 102, 50, 51, 100, 57, 102, 98, 51, 56, 54, 52, 53, 56, 99, 49, 99, 99, 99, 55, 56, 51, 51, 97, 48, 51, 53, 99, 101, 100])], .agg [.lit (.string [102, 57, 102, 54, 56, 53, 49, 55, 55, 102, 100, 55, 102, 97, 53, 52, 54, 100, 56, 101, 99, 50, 54, 48, 54, 48, 101, 97, 51, 55, 56, 54, 100, 51, 51, 52, 49, 98, 50, 97, 101, 52, 102, 55, 101, 102, 54, 100, 49, 97, 97, 99, 98, 51, 101, 98, 53, 101, 48, 55, 56, 97, 55, 57]), .lit (.string [99, 56, 102, 100, 57, 101, 49, 100, 49, 99, 50, 56, 55, 51, 97, 55, 53, 49, 98, 55, 97, 54, 49, 56, 98, 53, 49, 99, 100, 97, 54, 51, 100, 99, 55, 100, 102, 51, 50, 53, 49, 52, 55, 100, 99, 98, 101, 101, 48, 97, 50, 99, 52, 101, 98, 98, 102, 56, 50, 54, 56, 102, 53, 55])], .agg [.lit (.string [101, 97, 97, 97, 51, 102, 52, 101, 51, 51, 99, 50, 99, 52, 56, 99, 53, 50, 55, 50, 49, 102, 48, 53, 54, 48, 99, 99, 97, 57, 100, 53, 57, 49, 53, 100, 98, 49, 51, 53, 53, 52, 50, 54, 99, 52, 100, 101, 99, 51, 49, 54, 51, 55, 98, 49, 102, 53, 98, 55, 52, 100, 97, 49, 102, 98, 48, 52, 100, 101, 52, 50, 57, 56, 55, 99, 98, 50, 98, 51]), .lit (.string [99, 102, 50, 53, 101, 97, 102, 49, 56, 51, 97, 56, 51, 51, 100, 55, 102, 50, 101, 53, 52, 52, 49, 97, 97, 55, 57, 97, 98, 53, 100, 51, 101, 51, 97, 56, 49, 100, 99, 101, 99, 100, 98, 51, 49, 101, 100, 101, 54, 48, 100, 57, 101, 98, 55, 98, 50, 100, 55, 51, 98, 55, 50, 48, 55, 52, 52, 100, 99, 100, 101, 57, 55, 53, 51, 50, 53, 98, 50, 57])], .agg [.lit (.string [99, 54, 100, 98, 102, 102, 52, 100, 102, 102, 53, 98, 98, 49, 99, 54, 53, 56, 99, 49, 102, 101, 51, 52, 100, 48, 56, 53, 50, 97, 54, 98, 51, 52, 50, 55, 48, 98, 99, 99, 53, 49, 50, 99, 102, 53, 97, 48, 49, 98, 56, 97, 50, 99, 53, 56, 52, 48, 56, 98, 48, 100, 100, 49, 98, 49, 98, 101, 54, 49, 48, 100, 55, 49, 101, 98, 55, 51, 49, 100, 101, 50, 55, 57, 55, 53, 48, 100, 101, 98, 54, 57, 49, 55, 57, 49]), .lit (.string [99, 100, 50, 49, 97, 102, 99, 97, 101, 49, 53, 57, 54, 53, 54, 102, 99, 55, 53, 56, 56, 49, 49, 48, 55, 56, 56, 57, 100, 52, 97, 49, 54, 98, 49, 57, 100, 57, 97, 55, 102, 53, 49, 51, 102, 54, 48, 48, 49, 56, 52, 100, 51, 48, 101, 55, 99, 57, 101, 56, 56, 56, 99, 53, 57, 56, 102, 98, 55, 101, 49, 52, 53, 98, 52, 50, 57, 49, 49, 98, 52, 57, 57, 101, 54, 49, 50, 55, 99, 54, 54, 53, 56, 57, 48, 102])]]
/-- One of Go's own tables, pinned by name: the form's constant. -/
def laid_unicode_utf8_first : DataW Unit := Go.Pinned.utf8First

/-- 'pursehouselaw.CertChains': WHATEVER THE INPUT: true; the input reads as it did. -/
def certChainsSpec : ChangeSpec := { name := "certChains", fn := fun _ => fun
  | [d1, d2, d3, d4] => { results := [.lit (.bool true)], args := [d1, d2, d3, d4] }
  | _ => none }
def certChainsRow : OpenClaim := { program := "ytckkhpegimkefaagreatdoor", sum := "c5462c346d2056fff3d9eb24dfd781e6bbe160e900e46a53446f4616b441cdfc", func := "pursehouse/pursehouselaw.CertChains", spec := "certChains", inPlace := ["math/bits.Add64", "internal/bytealg.IndexByteString", "internal/bytealg.IndexString", "internal/abi.NoEscape", "internal/bytealg.MakeNoZero", "math/bits.Sub64"], unfollowed := true, recurses := true, named := ["pursehouse/pursehouselaw.primes", "math/bits.divideError", "math/bits.overflowError", "unicode/utf8.first", "unicode/utf8.acceptRanges", "internal/bytealg.MaxLen"], apart := false, laid := [("unicode/utf8.acceptRanges", laid_unicode_utf8_acceptRanges), ("pursehouse/pursehouselaw.primes", laid_pursehouse_pursehouselaw_primes), ("unicode/utf8.first", laid_unicode_utf8_first)] }
def CertChainsSaid : Prop := certChainsRow.holds Tryz.pinned (OpenSpec.ofChange certChainsSpec)

/-- ITS FALSE NEIGHBOUR: 'it returns false'. Refute it at one input. -/
def certChainsWrong : ChangeSpec := { name := "certChains", fn := fun _ => fun
  | [d1, d2, d3, d4] => { results := [.lit (.bool false)], args := [d1, d2, d3, d4] }
  | _ => none }
def CertChainsWrongFalsely : Prop := certChainsRow.holds Tryz.pinned (OpenSpec.ofChange certChainsWrong)

/-- 'pursehouselaw.CertBack': WHATEVER THE INPUT: true; the input reads as it did. -/
def certBackSpec : ChangeSpec := { name := "certBack", fn := fun _ => fun
  | [d1, d2, d3, d4] => { results := [.lit (.bool true)], args := [d1, d2, d3, d4] }
  | _ => none }
def certBackRow : OpenClaim := { program := "ytckkhpegimkefaagreatdoor", sum := "c5462c346d2056fff3d9eb24dfd781e6bbe160e900e46a53446f4616b441cdfc", func := "pursehouse/pursehouselaw.CertBack", spec := "certBack", inPlace := ["math/bits.Add64", "internal/abi.NoEscape", "internal/bytealg.MakeNoZero", "math/bits.Sub64", "internal/bytealg.IndexByteString", "internal/bytealg.IndexString"], unfollowed := true, recurses := true, named := ["pursehouse/pursehouselaw.primes", "math/bits.divideError", "math/bits.overflowError", "unicode/utf8.first", "unicode/utf8.acceptRanges", "internal/bytealg.MaxLen"], apart := false, laid := [("unicode/utf8.acceptRanges", laid_unicode_utf8_acceptRanges), ("pursehouse/pursehouselaw.primes", laid_pursehouse_pursehouselaw_primes), ("unicode/utf8.first", laid_unicode_utf8_first)] }
def CertBackSaid : Prop := certBackRow.holds Tryz.pinned (OpenSpec.ofChange certBackSpec)

/-- ITS FALSE NEIGHBOUR: 'it returns false'. Refute it at one input. -/
def certBackWrong : ChangeSpec := { name := "certBack", fn := fun _ => fun
  | [d1, d2, d3, d4] => { results := [.lit (.bool false)], args := [d1, d2, d3, d4] }
  | _ => none }
def CertBackWrongFalsely : Prop := certBackRow.holds Tryz.pinned (OpenSpec.ofChange certBackWrong)

/- THE SECOND FORM. 'bulk': how many values and letters a reading holds, each counted each time it is reached (what is shared counts as often as it is met; a slice's spare places count too). A statement '..UptoSaid' is the law's where the arguments, and the package variables that the reading takes, are together of bulk at most 1048576: NARROWER than '..Said'. Prove '..Said' where nothing that the law and all that it calls make is longer than what came in: it says more and counts as full. Else prove '..UptoSaid'. A law counts once. -/
mutual
def uptoBulk {H : Type} : DataW H → Nat
  | .lit (.string bytes) => bytes.length + 1
  | .lit _ => 1
  | .nil => 1
  | .ptr d => uptoBulk d + 1
  | .slice elems spare => uptoBulkAll elems + uptoBulkAll spare + 1
  | .agg parts => uptoBulkAll parts + 1
  | .iface _ d => uptoBulk d + 1
  | .map entries => uptoBulkEntries entries + 1
  | .held _ => 1
def uptoBulkAll {H : Type} : List (DataW H) → Nat
  | [] => 0
  | d :: r => uptoBulk d + uptoBulkAll r
def uptoBulkEntries {H : Type} : List (Lit × DataW H) → Nat
  | [] => 0
  | x :: r => uptoBulkEntry x + uptoBulkEntries r
def uptoBulkEntry {H : Type} : Lit × DataW H → Nat
  | (.string bytes, d) => bytes.length + uptoBulk d + 1
  | (_, d) => uptoBulk d + 1
 end
def uptoSmall : (H : Type) → List (DataW H) → Bool := fun _ ds => decide (uptoBulkAll ds ≤ 1048576)
def OpenSpec.upto (s : _root_.Go.ChangeSpec) : _root_.Go.OpenSpec := { _root_.Go.OpenSpec.ofChange s with cond := some uptoSmall }

/-- 'pursehouselaw.CertChains', WHERE WHAT IT READS IS OF BULK AT MOST 1048576: true; the input reads as it did. -/
def certChainsUptoRow : OpenClaim := { program := "ytckkhpegimkefaagreatdoor", sum := "c5462c346d2056fff3d9eb24dfd781e6bbe160e900e46a53446f4616b441cdfc", func := "pursehouse/pursehouselaw.CertChains", spec := "certChains", inPlace := ["math/bits.Add64", "internal/bytealg.IndexByteString", "internal/bytealg.IndexString", "internal/abi.NoEscape", "internal/bytealg.MakeNoZero", "math/bits.Sub64"], unfollowed := true, recurses := true, named := ["pursehouse/pursehouselaw.primes", "math/bits.divideError", "math/bits.overflowError", "unicode/utf8.first", "unicode/utf8.acceptRanges", "internal/bytealg.MaxLen"], apart := false, laid := [("unicode/utf8.acceptRanges", laid_unicode_utf8_acceptRanges), ("pursehouse/pursehouselaw.primes", laid_pursehouse_pursehouselaw_primes), ("unicode/utf8.first", laid_unicode_utf8_first)], narrowed := true }
def CertChainsUptoSaid : Prop := certChainsUptoRow.holds Tryz.pinned (OpenSpec.upto certChainsSpec)

/-- 'pursehouselaw.CertBack', WHERE WHAT IT READS IS OF BULK AT MOST 1048576: true; the input reads as it did. -/
def certBackUptoRow : OpenClaim := { program := "ytckkhpegimkefaagreatdoor", sum := "c5462c346d2056fff3d9eb24dfd781e6bbe160e900e46a53446f4616b441cdfc", func := "pursehouse/pursehouselaw.CertBack", spec := "certBack", inPlace := ["math/bits.Add64", "internal/abi.NoEscape", "internal/bytealg.MakeNoZero", "math/bits.Sub64", "internal/bytealg.IndexByteString", "internal/bytealg.IndexString"], unfollowed := true, recurses := true, named := ["pursehouse/pursehouselaw.primes", "math/bits.divideError", "math/bits.overflowError", "unicode/utf8.first", "unicode/utf8.acceptRanges", "internal/bytealg.MaxLen"], apart := false, laid := [("unicode/utf8.acceptRanges", laid_unicode_utf8_acceptRanges), ("pursehouse/pursehouselaw.primes", laid_pursehouse_pursehouselaw_primes), ("unicode/utf8.first", laid_unicode_utf8_first)], narrowed := true }
def CertBackUptoSaid : Prop := certBackUptoRow.holds Tryz.pinned (OpenSpec.upto certBackSpec)

end Rows
end Go.Proofs.YtckkhpegimkefaaGreatDoor
