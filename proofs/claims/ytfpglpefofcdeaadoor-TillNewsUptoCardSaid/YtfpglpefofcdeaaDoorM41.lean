/- Commands read, by the program: dealOf, commandOf. -/
import Derived.Test.YtfpglpefofcdeaaDoorM38
namespace Go.Proofs.YtfpglpefofcdeaaDoor
open Go.RowKit
set_option linter.unusedVariables false

/-- the deal of a text, as the program reads it -/
def dealP (s : ByteArray) : XDeal := if s.size = 29 then ⟨readV (s.extract 0 4), readV (s.extract 4 8), readV (s.extract 8 16), (readV (s.extract 16 17) == 1), readV (s.extract 17 19), readV (s.extract 19 21), s.extract 21 s.size⟩ else zeroD
end Go.Proofs.YtfpglpefofcdeaaDoor
namespace Go.Proofs.YtfpglpefofcdeaaDoor
open Go.RowKit
set_option linter.unusedVariables false

/-- the command of items, as the program reads it -/
def comP (D : List It) : XCommand := ⟨readV (gotT 128 8 D), gotT 129 8 D, gotT 130 8 D, readV (gotT 131 8 D), dealP (gotT 132 8 D), gotT 133 8 D, gotT 134 8 D, gotT 135 8 D⟩
theorem readV_bound (s : ByteArray) : 0 ≤ readV s ∧ readV s ≤ 9223372036854775807 := by
  unfold readV
  split
  · omega
  · split <;> omega
theorem wideQ {x : Int} (h : 0 ≤ x ∧ x ≤ 9223372036854775807) : -9223372036854775808 ≤ x ∧ x ≤ 9223372036854775807 := ⟨by omega, h.2⟩
theorem dealP_ok (s : ByteArray) (W : World) (hs : s.size ≤ 65535) : okDeal W (dealP s) ∧ bulkDeal (dealP s) ≤ 65535 := by
  unfold dealP
  split
  · have h1 := readV_bound (s.extract 0 4); have h2 := readV_bound (s.extract 4 8); have h3 := readV_bound (s.extract 8 16); have h4 := readV_bound (s.extract 17 19); have h5 := readV_bound (s.extract 19 21)
    have h6 : (s.extract 21 s.size).size ≤ 65535 := by rw [ByteArray.size_extract]; omega
    unfold okDeal bulkDeal
    dsimp only
    generalize readV (s.extract 0 4) = v1 at *
    generalize readV (s.extract 4 8) = v2 at *
    generalize readV (s.extract 8 16) = v3 at *
    generalize readV (s.extract 17 19) = v4 at *
    generalize readV (s.extract 19 21) = v5 at *
    exact ⟨⟨wideQ h1, wideQ h2, wideQ h3, wideQ h4, wideQ h5, by unfold maxLen; omega⟩, h6⟩
  · exact ⟨⟨⟨by decide, by decide⟩, ⟨by decide, by decide⟩, ⟨by decide, by decide⟩, ⟨by decide, by decide⟩, ⟨by decide, by decide⟩, Nat.zero_le _⟩, Nat.zero_le _⟩
theorem comP_ok (D : List It) (W : World) (hw : wt 8 D ≤ 65535) : okCommand W (comP D) ∧ bulkCommand (comP D) ≤ 0x100000 := by
  have g1 := got_size 129 8 D; have g2 := got_size 130 8 D; have g3 := got_size 132 8 D; have g4 := got_size 133 8 D; have g5 := got_size 134 8 D; have g6 := got_size 135 8 D
  have r1 := readV_bound (gotT 128 8 D); have r2 := readV_bound (gotT 131 8 D)
  obtain ⟨d1, d2⟩ := dealP_ok (gotT 132 8 D) W (by omega)
  refine ⟨⟨⟨?_, r1.2⟩, ?_, ?_, ⟨?_, r2.2⟩, d1, ?_, ?_, ?_⟩, ?_⟩
  · show -9223372036854775808 ≤ readV (gotT 128 8 D); omega
  · show (gotT 129 8 D).size ≤ maxLen; unfold maxLen; omega
  · show (gotT 130 8 D).size ≤ maxLen; unfold maxLen; omega
  · show -9223372036854775808 ≤ readV (gotT 131 8 D); omega
  · show (gotT 133 8 D).size ≤ maxLen; unfold maxLen; omega
  · show (gotT 134 8 D).size ≤ maxLen; unfold maxLen; omega
  · show (gotT 135 8 D).size ≤ maxLen; unfold maxLen; omega
  · show (gotT 129 8 D).size + (gotT 130 8 D).size + bulkDeal (dealP (gotT 132 8 D)) + (gotT 133 8 D).size + (gotT 134 8 D).size + (gotT 135 8 D).size ≤ 0x100000
    omega

def zeroC : XCommand := ⟨0, ⟨#[]⟩, ⟨#[]⟩, 0, zeroD, ⟨#[]⟩, ⟨#[]⟩, ⟨#[]⟩⟩
/-- the command that is read, where f makes one of a text -/
def readC (f : ByteArray → XCommand) (s : ByteArray) : Option XCommand := if commandE (f s) = 0 ∧ commandS (f s) = s then some (f s) else none
/-- as the program does it -/
def comF (s : ByteArray) : XCommand := if parsesE s = 0 then comP (parsesL s) else zeroC
def readCL (f : ByteArray → XCommand) (s : ByteArray) : XCommand := (readC f s).getD zeroC
def readCE (f : ByteArray → XCommand) (s : ByteArray) : Int := if (readC f s).isSome then 0 else 1
theorem zeroC_no : commandE zeroC = 4 := by decide +kernel
theorem ret_cmdQ {a b : Value} {x y : Int} (h1 : a = b) (h2 : x = y) : Ending.returned (.tuple #[a, .int .i64 x]) = .returned (.tuple #[b, .int .i64 y]) := by rw [h1, h2]
end Go.Proofs.YtfpglpefofcdeaaDoor
