/- Numbers in bytes (B6): what Number and ReadNumber answer, of the program and of the reference. -/
import Derived.Test.YtbnpajijbdddiaaVal
namespace Go.Proofs.Ytbnpajijbdddiaa
open Go.RowKit
set_option linter.unusedVariables false

/-- the row behind j rounds: zeros, then the low j bytes -/
def rowAt (n k j : Nat) : List Int := List.replicate (k - j) 0 ++ bigL n j
theorem rowAt_length (n k j : Nat) (h : j ≤ k) : (rowAt n k j).length = k := by simp [rowAt, bigL_length]; omega
theorem rowAt_set (n k j : Nat) (h : j < k) : (rowAt n k j).set (k - 1 - j) ((n / 256 ^ j % 256 : Nat) : Int) = rowAt n k (j + 1) := by
  unfold rowAt
  rw [show k - j = (k - (j + 1)) + 1 by omega, List.replicate_succ', List.append_assoc, show k - 1 - j = (List.replicate (k - (j + 1)) (0 : Int)).length + 0 by simp; omega, List.set_append_right _ _ (by omega)]
  simp [bigL]
theorem made_row (k : Nat) (n : Nat) : (madeCells #[Value.int .u8 0] k).toList = (rowAt n k 0).map (Value.int .u8) := by
  have e : rowAt n k 0 = List.replicate k 0 := by simp [rowAt, bigL]
  rw [e, List.map_replicate]
  apply List.ext_getElem
  · simp [madeCells]
  · intro i h1 h2
    simp [madeCells, Nat.mod_one]
theorem pow_256 (n j : Nat) : ((n : Int) / 2 ^ (8 * j)) = ((n / 256 ^ j : Nat) : Int) := by
  rw [Int.pow_mul]
  simp




theorem wraps_u64 (n : Int) (h₀ : 0 ≤ n) (h₁ : n < 2 ^ 64) : IntKind.u64.wrap n = n := by
  simp [IntKind.wrap, IntKind.bits, IntKind.signed]
  omega
theorem or_u64 (m b : Nat) (hb : b < 256) (h : (m : Int) * 256 + b ≤ 18446744073709551615) : bits .or .u64 ((m : Int) * 256) b = ((m * 256 + b : Nat) : Int) := by
  rw [bits_join .u64 64 (by decide) wraps_u64 8 _ _ (by omega) (by omega) (by omega) (by omega) (by omega) (by omega)]
  omega
theorem valN_lt8 (l : List UInt8) (h : l.length ≤ 8) : valN l ≤ 18446744073709551615 := by
  have h1 := valN_lt l
  have h2 : 256 ^ l.length ≤ 256 ^ 8 := Nat.pow_le_pow_right (by omega) h
  omega

/-- what is answered of a number that was read -/
def readOf (m : Nat) : Value := if 9223372036854775807 < m then .tuple #[.int .i64 0, .int .i64 3] else .tuple #[.int .i64 m, .int .i64 0]
theorem readOf_big {m : Nat} (h : 9223372036854775807 < m) : readOf m = .tuple #[.int .i64 0, .int .i64 3] := by rw [readOf, if_pos h]
theorem readOf_small {m : Nat} (h : ¬ 9223372036854775807 < m) : readOf m = .tuple #[.int .i64 m, .int .i64 0] := by rw [readOf, if_neg h]

theorem valN_cons (b : UInt8) (l : List UInt8) : valN (b :: l) = b.toNat * 256 ^ l.length + valN l := by
  have h : ∀ (l : List UInt8) (a : Nat), l.foldl (fun n b => n * 256 + b.toNat) a = a * 256 ^ l.length + l.foldl (fun n b => n * 256 + b.toNat) 0 := by
    intro l
    induction l with
    | nil => intro a; simp
    | cons b l ih =>
      intro a
      rw [List.foldl_cons, List.foldl_cons, List.length_cons, ih (a * 256 + b.toNat), ih (0 * 256 + b.toNat), Nat.pow_succ, Nat.add_mul]
      rw [show a * 256 * 256 ^ l.length = a * (256 ^ l.length * 256) by rw [Nat.mul_assoc, Nat.mul_comm 256], Nat.zero_mul, Nat.zero_add, Nat.add_assoc]
  show (b :: l).foldl _ 0 = _
  rw [List.foldl_cons, h]
  simp [valN]
theorem valN_eight (s : ByteArray) (h8 : s.size = 8) : 9223372036854775807 < valN s.data.toList ↔ 128 ≤ (s[0]'(by omega)).toNat := by
  match hl : s.data.toList with
  | [] => have : s.data.toList.length = 8 := by simpa using h8
          rw [hl] at this; simp at this
  | b :: l =>
    have hlen : s.data.toList.length = 8 := by simpa using h8
    have hb : s[0]'(by omega) = b := by
      have : s.data.toList[0]'(by omega) = b := by simp [hl]
      rw [← this]; rfl
    rw [hb, valN_cons]
    have hl7 : l.length = 7 := by rw [hl] at hlen; simpa using hlen
    have h1 := valN_lt l
    rw [hl7] at h1 ⊢
    omega


end Go.Proofs.Ytbnpajijbdddiaa
