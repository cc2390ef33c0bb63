/- Unframe of any bytes, of the program and of the reference: one contract each. -/
import Derived.Test.YthchicolifkpiaaDoorRUnframe
namespace Go.Proofs.YthchicolifkpiaaDoor
open Go.RowKit
set_option linter.unusedVariables false

abbrev hT (s : ByteArray) : Nat := byteAt s 0 % 2
abbrev hN (s : ByteArray) : Nat := byteAt s 0 / 2 % 2
abbrev hM (s : ByteArray) : Bool := byteAt s 0 / 4 % 2 == 1
abbrev hH (s : ByteArray) : Bool := byteAt s 0 / 8 % 2 == 1
abbrev hB (s : ByteArray) : ByteArray := s.extract 2 (s.size - 2)
/-- what Unframe tells of bytes -/
def unfE (s : ByteArray) : Int :=
  if s.size < 4 then 1
  else if s.size ≠ 4 + byteAt s 1 ∨ 15 < byteAt s 0 then 1
  else if sumN (s.data.toList.take (s.size - 2)) ≠ byteAt s (s.size - 2) * 256 + byteAt s (s.size - 1) then 9
  else checkE (hT s) (hN s) (hM s) (hH s) (hB s)
/-- the block: its fields -/
def uT (s : ByteArray) : Int := if unfE s = 0 then (hT s : Int) else 0
def uN (s : ByteArray) : Int := if unfE s = 0 then (hN s : Int) else 0
def uM (s : ByteArray) : Bool := if unfE s = 0 then hM s else false
def uH (s : ByteArray) : Bool := if unfE s = 0 then hH s else false
def uB (s : ByteArray) : ByteArray := if unfE s = 0 then hB s else ⟨#[]⟩
theorem uBlk_no {s : ByteArray} (h : unfE s ≠ 0) : blk (uT s) (uN s) (uM s) (uH s) (uB s) = noBlk := by
  unfold uT uN uM uH uB
  rw [if_neg h, if_neg h, if_neg h, if_neg h, if_neg h]
theorem uBlk_if (s : ByteArray) : blk (uT s) (uN s) (uM s) (uH s) (uB s) = if unfE s = 0 then blk (hT s) (hN s) (hM s) (hH s) (hB s) else noBlk := by
  by_cases h : unfE s = 0
  · unfold uT uN uM uH uB
    rw [if_pos h, if_pos h, if_pos h, if_pos h, if_pos h, if_pos h]
  · rw [uBlk_no h, if_neg h]

theorem unframe_all (s : ByteArray) (w : World) (ht : Tab w) (hw0 : 0 < w.heap.size) (hm : s.size ≤ maxLen) :
    Calls Tryd.prog 25 #[.string s] w fun e w' => e = .returned (.tuple #[blk (uT s) (uN s) (uM s) (uH s) (uB s), .int .i64 (unfE s)]) ∧ Below w.heap.size w w' := by
  unfold maxLen at hm
  by_cases h1 : s.size < 4
  · have e : unfE s = 1 := by rw [unfE, if_pos h1]
    rw [uBlk_no (by rw [e]; decide), e]
    exact unframe_short s w h1
  · by_cases h2 : s.size ≠ 4 + byteAt s 1 ∨ 15 < byteAt s 0
    · have e : unfE s = 1 := by rw [unfE, if_neg h1, if_pos h2]
      rw [uBlk_no (by rw [e]; decide), e]
      exact unframe_length s w (by omega) hm h2
    · by_cases h3 : sumN (s.data.toList.take (s.size - 2)) ≠ byteAt s (s.size - 2) * 256 + byteAt s (s.size - 1)
      · have e : unfE s = 9 := by rw [unfE, if_neg h1, if_neg h2, if_pos h3]
        rw [uBlk_no (by rw [e]; decide), e]
        exact unframe_sum s w ht hw0 (by omega) (by omega) h3
      · have e : unfE s = checkE (hT s) (hN s) (hM s) (hH s) (hB s) := by rw [unfE, if_neg h1, if_neg h2, if_neg h3]
        rw [uBlk_if]
        exact unframe_rest s w ht hw0 (by omega) (by omega) (by omega) _ _ _ _ rfl rfl rfl rfl _ e.symm

theorem runframe_all (s : ByteArray) (w : World) (hm : s.size ≤ maxLen) :
    Calls Tryd.prog 23 #[.string s] w fun e w' => e = .returned (.tuple #[blk (uT s) (uN s) (uM s) (uH s) (uB s), .int .i64 (unfE s)]) ∧ Below w.heap.size w w' := by
  unfold maxLen at hm
  by_cases h1 : s.size < 4
  · have e : unfE s = 1 := by rw [unfE, if_pos h1]
    rw [uBlk_no (by rw [e]; decide), e]
    exact runframe_short s w h1
  · by_cases h2 : s.size ≠ 4 + byteAt s 1 ∨ 15 < byteAt s 0
    · have e : unfE s = 1 := by rw [unfE, if_neg h1, if_pos h2]
      rw [uBlk_no (by rw [e]; decide), e]
      exact runframe_length s w (by omega) hm h2
    · by_cases h3 : sumN (s.data.toList.take (s.size - 2)) ≠ byteAt s (s.size - 2) * 256 + byteAt s (s.size - 1)
      · have e : unfE s = 9 := by rw [unfE, if_neg h1, if_neg h2, if_pos h3]
        rw [uBlk_no (by rw [e]; decide), e]
        exact runframe_sum s w (by omega) (by omega) h3
      · have e : unfE s = checkE (hT s) (hN s) (hM s) (hH s) (hB s) := by rw [unfE, if_neg h1, if_neg h2, if_neg h3]
        rw [uBlk_if]
        exact runframe_rest s w (by omega) (by omega) (by omega) _ _ _ _ rfl rfl rfl rfl _ e.symm
end Go.Proofs.YthchicolifkpiaaDoor
